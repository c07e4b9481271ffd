/-
  Words and contracts that a statement's proof rests on (KeyA). No statement is proved here.
-/
import Derived.Deep.RegionHeld3
import Derived.Test.YthloabdfkakehaaGreatPlainKy
import Derived.Test.YthloabdfkakehaaGreatPlainBu
import Derived.Test.YthloabdfkakehaaGreatKeep
set_option linter.unusedVariables false
set_option linter.unusedSimpArgs false
namespace Go.Proofs.YthloabdfkakehaaGreat
open Go.RowKit
set_option maxHeartbeats 1600000 in
theorem key_Right (v:Int) (m:Nat) (hm:m < 18446744073709551616) (w:World) :
  Calls Tryz.prog 98 #[.agg #[.int .i64 v,.int .u64 (m:Int)]] w (Says (.bool (rightK v m)) w):=by
 have hg:(0:Int)≤(m:Int):=Int.natCast_nonneg _
 have hR:=fun W => mac_Right m hm W
 have hK:=fun W => mac_Kind m hm W
 rcases (show (v < 1) ∨ (1≤v∧4094 < v) ∨ (1≤v∧v≤4094∧m=0) ∨ (1≤v∧v≤4094∧0 < m∧281474976710656≤m) ∨ (1≤v∧v≤4094∧0 < m∧m < 281474976710656∧m / 1099511627776 % 2 ≠ 0) ∨ (1≤v∧v≤4094∧0 < m∧m < 281474976710656∧m / 1099511627776 % 2=0) by omega) with h | ⟨h,h1⟩ | ⟨h,h1,h2⟩ | ⟨h,h1,h2,h3⟩ | ⟨h,h1,h2,h3,h4⟩ | ⟨h,h1,h2,h3,h4⟩
 ·rw [rightK_no (by omega)]
  clear hR hK hm hg
  go_enter Tryz.func98,Tryz.ntmps98
  go_wp2
  go_ret
  exact ⟨ret_bool (by first | rfl | (simp; omega)),((Below.refl _ _).alloc (Nat.le_refl _) _)⟩
 ·rw [rightK_no (by omega)]
  clear hR hK hm hg
  go_enter Tryz.func98,Tryz.ntmps98
  go_wp2
  go_ret
  exact ⟨ret_bool (by first | rfl | (simp; omega)),((Below.refl _ _).alloc (Nat.le_refl _) _)⟩
 ·rw [rightK_no (by omega)]
  subst h2
  clear hR hK hm hg
  go_enter Tryz.func98,Tryz.ntmps98
  go_wp2
  go_ret
  exact ⟨ret_bool (by first | rfl | (simp; omega)),((Below.refl _ _).alloc (Nat.le_refl _) _)⟩
 ·rw [rightK_no (by omega)]
  have h5:¬ (m:Int)=0:=by omega
  rw [decide_eq_false (by omega)] at hR
  clear hK
  have HR:=Lib.hid hR
  clear hR
  clear hm
  go_enter Tryz.func98,Tryz.ntmps98
  go_wp2_with fail
  refine (HR.out _).mono ?_
  rintro e w1 ⟨rfl,rfl⟩
  go_wp2
  go_ret
  exact ⟨ret_bool (by first | rfl | (simp; omega)),((Below.refl _ _).alloc (Nat.le_refl _) _)⟩
 ·rw [rightK_no (by omega)]
  have h5:¬ (m:Int)=0:=by omega
  rw [decide_eq_true (by omega)] at hR
  have h6:¬ kindN m=0:=fun hh => h4 ((kind_zero h3).1 hh)
  generalize kindN m=k at *
  have h7:¬ (k:Int)=0:=by omega
  have HK:=Lib.hid hK
  clear hK
  have HR:=Lib.hid hR
  clear hR
  clear h4
  clear hm
  go_enter Tryz.func98,Tryz.ntmps98
  go_wp2_with fail
  refine (HR.out _).mono ?_
  rintro e w1 ⟨rfl,rfl⟩
  go_wp2_with fail
  refine (HK.out _).mono ?_
  rintro e w2 ⟨rfl,rfl⟩
  go_wp2
  go_ret
  exact ⟨ret_bool (by first | rfl | (simp; omega)),((Below.refl _ _).alloc (Nat.le_refl _) _)⟩
 ·rw [rightK_iff.2 ⟨h,h1,h2,h3,h4⟩]
  have h5:¬ (m:Int)=0:=by omega
  rw [decide_eq_true (by omega)] at hR
  rw [(kind_zero h3).2 h4] at hK
  have HK:=Lib.hid hK
  clear hK
  have HR:=Lib.hid hR
  clear hR
  clear h4
  clear hm
  go_enter Tryz.func98,Tryz.ntmps98
  go_wp2_with fail
  refine (HR.out _).mono ?_
  rintro e w1 ⟨rfl,rfl⟩
  go_wp2_with fail
  refine (HK.out _).mono ?_
  rintro e w2 ⟨rfl,rfl⟩
  go_wp2
  go_ret
  exact ⟨ret_bool (by first | rfl | (simp; omega)),((Below.refl _ _).alloc (Nat.le_refl _) _)⟩
set_option maxHeartbeats 1600000 in
theorem ref8_Right (v:Int) (m:Nat) (hm:m < 18446744073709551616) (w:World) :
  Calls Tryz.prog 68 #[.agg #[.int .i64 v,.int .u64 (m:Int)]] w (Says (.bool (rightK v m)) w):=by
 have hg:(0:Int)≤(m:Int):=Int.natCast_nonneg _
 have hR:=fun W => ref_Low m W
 have hK:=fun W => ref_Kind m hm W
 rcases (show (v < 1) ∨ (1≤v∧4094 < v) ∨ (1≤v∧v≤4094∧m=0) ∨ (1≤v∧v≤4094∧0 < m∧281474976710656≤m) ∨ (1≤v∧v≤4094∧0 < m∧m < 281474976710656∧m / 1099511627776 % 2 ≠ 0) ∨ (1≤v∧v≤4094∧0 < m∧m < 281474976710656∧m / 1099511627776 % 2=0) by omega) with h | ⟨h,h1⟩ | ⟨h,h1,h2⟩ | ⟨h,h1,h2,h3⟩ | ⟨h,h1,h2,h3,h4⟩ | ⟨h,h1,h2,h3,h4⟩
 ·rw [rightK_no (by omega)]
  have d0:decide (v ≥ 1)=false:=decide_eq_false (by omega)
  clear hR hK hm hg
  go_enter Tryz.func68,Tryz.ntmps68
  go_wp2_with fail
  go_quiet (fail)
  go_wp2
  go_ret
  exact ⟨ret_bool (by first | rfl | (simp; omega)),below_drewN ((Below.refl _ _).alloc (Nat.le_refl _) _) _⟩
 ·rw [rightK_no (by omega)]
  have d0:decide (v ≥ 1)=true:=decide_eq_true (by omega)
  have d1:decide (v≤4094)=false:=decide_eq_false (by omega)
  clear hR hK hm hg
  go_enter Tryz.func68,Tryz.ntmps68
  go_wp2_with fail
  go_quiet (fail)
  go_wp2
  go_ret
  exact ⟨ret_bool (by first | rfl | (simp; omega)),below_drewN ((Below.refl _ _).alloc (Nat.le_refl _) _) _⟩
 ·rw [rightK_no (by omega)]
  subst h2
  have d0:decide (v ≥ 1)=true:=decide_eq_true (by omega)
  have d1:decide (v≤4094)=true:=decide_eq_true (by omega)
  clear hR hK hm hg
  go_enter Tryz.func68,Tryz.ntmps68
  go_wp2_with fail
  go_quiet (fail)
  go_wp2
  go_ret
  exact ⟨ret_bool (by first | rfl | (simp; omega)),below_drewN ((Below.refl _ _).alloc (Nat.le_refl _) _) _⟩
 ·rw [rightK_no (by omega)]
  have d0:decide (v ≥ 1)=true:=decide_eq_true (by omega)
  have d1:decide (v≤4094)=true:=decide_eq_true (by omega)
  have d2:decide ((m:Int) > 0)=true:=decide_eq_true (by omega)
  have d3:((m:Int) == ((m % 281474976710656:Nat):Int))=false:=by simp; omega
  have h5:¬ (m:Int)=0:=by omega
  generalize m % 281474976710656=L at *
  clear hK
  have HR:=Lib.hid hR
  clear hR
  clear hm
  go_enter Tryz.func68,Tryz.ntmps68
  go_wp2_with fail
  go_quiet (first | (go_at_call 56; with_reducible exact still0 HR.out _ _) | (go_at_call 56; with_reducible exact still1 HR.out _ _ _))
  go_wp2
  go_ret
  exact ⟨ret_bool (by first | rfl | (simp; omega)),below_drewN ((Below.refl _ _).alloc (Nat.le_refl _) _) _⟩
 ·rw [rightK_no (by omega)]
  have d0:decide (v ≥ 1)=true:=decide_eq_true (by omega)
  have d1:decide (v≤4094)=true:=decide_eq_true (by omega)
  have d2:decide ((m:Int) > 0)=true:=decide_eq_true (by omega)
  have d3:((m:Int) == (m:Int))=true:=by simp
  have h5:¬ (m:Int)=0:=by omega
  rw [Nat.mod_eq_of_lt (by omega)] at hR
  have h6:¬ kindN m=0:=fun hh => h4 ((kind_zero h3).1 hh)
  generalize kindN m=k at *
  have d4:((k:Int) == 0)=false:=by simp; omega
  have HK:=Lib.hid hK
  clear hK
  have HR:=Lib.hid hR
  clear hR
  clear h4
  clear hm
  go_enter Tryz.func68,Tryz.ntmps68
  go_wp2_with fail
  go_region_held3 (fun w' => w'.cell? ⟨w.heap.size,0,none⟩=some (.int .i64 v)∧w'.cell? ⟨w.heap.size,1,none⟩=some (.int .u64 (m:Int)))
   (first | (with_reducible exact kp2 (by assumption) (fun p hp => hb.cell (by rw [hp]; go_size))) | go_keep)
   (first
    | (go_at_call 56; (with_reducible refine Calls.mono (HR.out _) ?_); rintro e w1 ⟨rfl,rfl⟩)
    | (go_at_call 109; (with_reducible refine Calls.mono (HK.out _) ?_); rintro e w2 ⟨rfl,hb⟩; have hB2:Below w.heap.size w w2:=Below.trans (by (repeat' (first | (with_reducible exact Below.refl _ _) | (with_reducible assumption) | (with_reducible refine Below.setCell ?_ ?_ _) | (with_reducible refine Below.alloc ?_ ?_ _) | (with_reducible refine below_drewN ?_ _) | (with_reducible refine Below.drew ?_) | go_size))) (hb.mono (by go_size)); have hz2:w.heap.size + 1≤w2.heap.size:=(by have:=hb.size; (try simp at this); omega)))
  all_goals
   go_wp2
   go_ret
   exact ⟨ret_bool (by first | rfl | (simp; omega)),by assumption⟩
 ·rw [rightK_iff.2 ⟨h,h1,h2,h3,h4⟩]
  have d0:decide (v ≥ 1)=true:=decide_eq_true (by omega)
  have d1:decide (v≤4094)=true:=decide_eq_true (by omega)
  have d2:decide ((m:Int) > 0)=true:=decide_eq_true (by omega)
  have d3:((m:Int) == (m:Int))=true:=by simp
  have h5:¬ (m:Int)=0:=by omega
  rw [Nat.mod_eq_of_lt (by omega)] at hR
  rw [(kind_zero h3).2 h4] at hK
  have HK:=Lib.hid hK
  clear hK
  have HR:=Lib.hid hR
  clear hR
  clear h4
  clear hm
  go_enter Tryz.func68,Tryz.ntmps68
  go_wp2_with fail
  go_region_held3 (fun w' => w'.cell? ⟨w.heap.size,0,none⟩=some (.int .i64 v)∧w'.cell? ⟨w.heap.size,1,none⟩=some (.int .u64 (m:Int)))
   (first | (with_reducible exact kp2 (by assumption) (fun p hp => hb.cell (by rw [hp]; go_size))) | go_keep)
   (first
    | (go_at_call 56; (with_reducible refine Calls.mono (HR.out _) ?_); rintro e w1 ⟨rfl,rfl⟩)
    | (go_at_call 109; (with_reducible refine Calls.mono (HK.out _) ?_); rintro e w2 ⟨rfl,hb⟩; have hB2:Below w.heap.size w w2:=Below.trans (by (repeat' (first | (with_reducible exact Below.refl _ _) | (with_reducible assumption) | (with_reducible refine Below.setCell ?_ ?_ _) | (with_reducible refine Below.alloc ?_ ?_ _) | (with_reducible refine below_drewN ?_ _) | (with_reducible refine Below.drew ?_) | go_size))) (hb.mono (by go_size)); have hz2:w.heap.size + 1≤w2.heap.size:=(by have:=hb.size; (try simp at this); omega)))
  all_goals
   go_wp2
   go_ret
   exact ⟨ret_bool (by first | rfl | (simp; omega)),by assumption⟩
set_option maxHeartbeats 1600000 in
theorem key_Word (v:Int) (m:Nat) (hm:m < 18446744073709551616) (w:World) :
  Calls Tryz.prog 131 #[.agg #[.int .i64 v,.int .u64 (m:Int)]] w (Says (.int .u64 (wordN v m:Nat)) w):=by
 have hR:=fun W => key_Right v m hm W
 cases hr:rightK v m
 ·rw [hr] at hR
  rw [wordN_no hr]
  have HR:=Lib.hid hR
  clear hR hr hm
  go_enter Tryz.func131,Tryz.ntmps131
  go_wp2_with fail
  refine (HR.out _).mono ?_
  rintro e w1 ⟨rfl,hb⟩
  have HB:=Lib.hid hb
  clear hb
  go_wp2
  go_ret
  exact ⟨rfl,Below.trans ((Below.refl _ _).alloc (Nat.le_refl _) _) (HB.out.mono (by simp))⟩
 ·rw [hr] at hR
  rw [wordN_yes hr]
  obtain ⟨h1,h2,h3,h4,h5⟩:=rightK_iff.1 hr
  have HR:=Lib.hid hR
  clear hR hr hm h5
  obtain ⟨u,rfl⟩:=Int.eq_ofNat_of_zero_le (show 0≤v by omega)
  rw [Int.toNat_natCast]
  have hu:u < 4096:=by omega
  have e1:bits .or .u64 1152921504606846976 ((u:Int) * 281474976710656)=((1152921504606846976 ||| u * 281474976710656:Nat):Int):=by
   have:=u64_or_nat 1152921504606846976 (u * 281474976710656) (by omega) (by omega)
   simpa using this
  have hx:1152921504606846976 ||| u * 281474976710656 < 18446744073709551616:=by
   have:=or_word u 0 hu (by omega)
   rw [Nat.or_zero] at this
   omega
  have e2:=u64_or_nat (1152921504606846976 ||| u * 281474976710656) m hx (by omega)
  rw [or_word u m hu h4] at e2
  obtain ⟨y,hy⟩:∃ y,y=1152921504606846976 ||| u * 281474976710656:=⟨_,rfl⟩
  rw [← hy] at e1 e2
  clear hy hx
  go_enter Tryz.func131,Tryz.ntmps131
  go_wp2_with fail
  refine (HR.out _).mono ?_
  rintro e w1 ⟨rfl,hb⟩
  obtain ⟨hc,hf⟩:=bcell hb
  have c0:w1.cell? ⟨w.heap.size,0,none⟩=some (.int .i64 (u:Int)):=by rw [hc _ _ (by simp)]; simp [go_sem]
  have c1:w1.cell? ⟨w.heap.size,1,none⟩=some (.int .u64 (m:Int)):=by rw [hc _ _ (by simp)]; simp [go_sem]
  have HB:=Lib.hid hb
  clear hb hc hf
  go_wp2
  go_ret
  exact ⟨ret_u64 (by first | rfl | (simp; done) | omega),Below.trans ((Below.refl _ _).alloc (Nat.le_refl _) _) (HB.out.mono (by simp))⟩
set_option maxHeartbeats 1600000 in
theorem ref8_Word (v:Int) (m:Nat) (hm:m < 18446744073709551616) (w:World) :
  Calls Tryz.prog 70 #[.agg #[.int .i64 v,.int .u64 (m:Int)]] w (Says (.int .u64 (wordN v m:Nat)) w):=by
 have hR:=fun W => ref8_Right v m hm W
 cases hr:rightK v m
 ·rw [hr] at hR
  rw [wordN_no hr]
  have HR:=Lib.hid hR
  clear hR hr hm
  go_enter Tryz.func70,Tryz.ntmps70
  go_wp2_with fail
  refine (HR.out _).mono ?_
  rintro e w1 ⟨rfl,hb⟩
  have HB:=Lib.hid hb
  clear hb
  go_wp2
  go_ret
  exact ⟨rfl,Below.trans ((Below.refl _ _).alloc (Nat.le_refl _) _) (HB.out.mono (by simp))⟩
 ·rw [hr] at hR
  rw [wordN_yes hr]
  obtain ⟨h1,h2,h3,h4,h5⟩:=rightK_iff.1 hr
  have HR:=Lib.hid hR
  clear hR hr hm h5
  obtain ⟨u,rfl⟩:=Int.eq_ofNat_of_zero_le (show 0≤v by omega)
  rw [Int.toNat_natCast]
  have hu:u < 4096:=by omega
  go_enter Tryz.func70,Tryz.ntmps70
  go_wp2_with fail
  refine (HR.out _).mono ?_
  rintro e w1 ⟨rfl,hb⟩
  obtain ⟨hc,hf⟩:=bcell hb
  have c0:w1.cell? ⟨w.heap.size,0,none⟩=some (.int .i64 (u:Int)):=by rw [hc _ _ (by simp)]; simp [go_sem]
  have c1:w1.cell? ⟨w.heap.size,1,none⟩=some (.int .u64 (m:Int)):=by rw [hc _ _ (by simp)]; simp [go_sem]
  have HB:=Lib.hid hb
  clear hb hc hf
  go_wp2
  go_ret
  exact ⟨ret_u64 (by first | rfl | (simp; done) | omega),Below.trans ((Below.refl _ _).alloc (Nat.le_refl _) _) (HB.out.mono (by simp))⟩
end Go.Proofs.YthloabdfkakehaaGreat
