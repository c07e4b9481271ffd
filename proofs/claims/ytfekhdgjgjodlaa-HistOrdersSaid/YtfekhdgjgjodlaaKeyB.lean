/-
  Words and contracts that a statement's proof rests on (KeyB, SlotA, KeyD, KeyR). No statement is proved here.
-/
import Derived.Test.YtfekhdgjgjodlaaKeyA
set_option linter.unusedVariables false
set_option linter.unusedSimpArgs false
namespace Go.Proofs.Ytfekhdgjgjodlaa
section
open Go.RowKit
end
section
open Go.RowKit
theorem rightE_at (v:Int) (m:Nat) (p:Int) (st:Bool) (s:Nat):rightE ⟨v,m,p,st,s⟩=(rightK v m && (decide (0≤p) && decide (p < 64) && !(st && decide (s ≠ 0)))):=by
 unfold rightE
 cases st <;> simp [Bool.decide_and,Bool.and_assoc]
set_option maxHeartbeats 1600000 in
theorem slot_Right (v:Int) (m:Nat) (hm:m < 18446744073709551616) (p:Int) (st:Bool) (s:Nat) (hs:s < 4294967296) (w:World) :
  Calls Try.prog 93 #[.agg #[.int .i64 v,.int .u64 (m:Int),.int .i64 p,.bool st,.int .u32 (s:Int)]] w (Says (.bool (rightE ⟨v,m,p,st,s⟩)) w):=by
 have hR:=fun W => key_Right v m hm W
 rw [rightE_at]
 generalize rightK v m=r at *
 have HR:=Lib.hid hR
 clear hR hm
 cases st
 ·cases r
  ·go_enter Try.func93,Try.ntmps93
   go_wp2_with fail
   refine (HR.out _).mono ?_
   rintro e w1 ⟨rfl,hb⟩
   obtain ⟨hc,_⟩:=bcell hb
   have c2:w1.cell? ⟨w.heap.size,2,none⟩=some (.int .i64 p):=by rw [hc _ _ (by simp)]; simp [go_sem]
   have HB:=Lib.hid (Below.trans ((Below.refl _ _).alloc (Nat.le_refl _) _) (hb.mono (by simp)))
   clear hc hb
   go_wp2
   all_goals go_ret
   all_goals refine ⟨ret_bool ?_,HB.out⟩
   all_goals first | rfl | (simp; done) | (simp_all; done) | (simp; omega) | (rw [Bool.eq_iff_iff]; simp; omega)
  ·go_enter Try.func93,Try.ntmps93
   go_wp2_with fail
   refine (HR.out _).mono ?_
   rintro e w1 ⟨rfl,hb⟩
   obtain ⟨hc,_⟩:=bcell hb
   have c2:w1.cell? ⟨w.heap.size,2,none⟩=some (.int .i64 p):=by rw [hc _ _ (by simp)]; simp [go_sem]
   have HB:=Lib.hid (Below.trans ((Below.refl _ _).alloc (Nat.le_refl _) _) (hb.mono (by simp)))
   clear hc hb
   go_wp2
   all_goals go_ret
   all_goals refine ⟨ret_bool ?_,HB.out⟩
   all_goals first | rfl | (simp; done) | (simp_all; done) | (simp; omega) | (rw [Bool.eq_iff_iff]; simp; omega)
 ·by_cases hz:s=0
  ·subst hz
   cases r
   ·go_enter Try.func93,Try.ntmps93
    go_wp2_with fail
    refine (HR.out _).mono ?_
    rintro e w1 ⟨rfl,hb⟩
    obtain ⟨hc,_⟩:=bcell hb
    have c2:w1.cell? ⟨w.heap.size,2,none⟩=some (.int .i64 p):=by rw [hc _ _ (by simp)]; simp [go_sem]
    have HB:=Lib.hid (Below.trans ((Below.refl _ _).alloc (Nat.le_refl _) _) (hb.mono (by simp)))
    clear hc hb
    go_wp2
    all_goals go_ret
    all_goals refine ⟨ret_bool ?_,HB.out⟩
    all_goals first | rfl | (simp; done) | (simp_all; done) | (simp; omega) | (rw [Bool.eq_iff_iff]; simp; omega)
   ·go_enter Try.func93,Try.ntmps93
    go_wp2_with fail
    refine (HR.out _).mono ?_
    rintro e w1 ⟨rfl,hb⟩
    obtain ⟨hc,_⟩:=bcell hb
    have c2:w1.cell? ⟨w.heap.size,2,none⟩=some (.int .i64 p):=by rw [hc _ _ (by simp)]; simp [go_sem]
    have HB:=Lib.hid (Below.trans ((Below.refl _ _).alloc (Nat.le_refl _) _) (hb.mono (by simp)))
    clear hc hb
    go_wp2
    all_goals go_ret
    all_goals refine ⟨ret_bool ?_,HB.out⟩
    all_goals first | rfl | (simp; done) | (simp_all; done) | (simp; omega) | (rw [Bool.eq_iff_iff]; simp; omega)
  ·have hz1:¬ (s:Int)=0:=by omega
   cases r
   ·go_enter Try.func93,Try.ntmps93
    go_wp2
    go_ret
    exact ⟨ret_bool (by first | rfl | (simp; done) | (simp [hz]; done)),((Below.refl _ _).alloc (Nat.le_refl _) _)⟩
   ·go_enter Try.func93,Try.ntmps93
    go_wp2
    go_ret
    exact ⟨ret_bool (by first | rfl | (simp; done) | (simp [hz]; done)),((Below.refl _ _).alloc (Nat.le_refl _) _)⟩
end
section
open Go.RowKit
def plS (v:Int) (m:Nat) (s b:Int):Int:=if rightK v m=true∧1≤s∧1≤b then mixI (wordN v m:Nat) % s else 0
def plB (v:Int) (m:Nat) (s b:Int):Int:=if rightK v m=true∧1≤s∧1≤b then mixI (wordN v m:Nat) / 4294967296 % b else 0
theorem pl_no {v:Int} {m:Nat} {s b:Int} (h:¬ (rightK v m=true∧1≤s∧1≤b)):plS v m s b=0∧plB v m s b=0:=⟨if_neg h,if_neg h⟩
theorem pl_yes {v:Int} {m:Nat} {s b:Int} (h:rightK v m=true∧1≤s∧1≤b):plS v m s b=mixI (wordN v m:Nat) % s∧plB v m s b=mixI (wordN v m:Nat) / 4294967296 % b:=⟨if_pos h,if_pos h⟩
theorem mod_w (h s:Int) (h0:0≤h∧h < 18446744073709551616) (hs:1≤s∧s≤9223372036854775807):wrap64 (h % s)=h % s:=by
 have h1:=Int.emod_nonneg h (show s ≠ 0 by omega)
 have h2:=Int.emod_lt_of_pos h (show 0 < s by omega)
 unfold wrap64
 omega
theorem wrap_pos (s:Int) (hs:1≤s∧s≤9223372036854775807):IntKind.u64.wrap s=s:=by rw [IntKind.wrap_u64]; omega
set_option maxHeartbeats 1600000 in
theorem key_Place (v:Int) (m:Nat) (hm:m < 18446744073709551616) (s b:Int) (hs:s≤9223372036854775807) (hb:b≤9223372036854775807) (w:World) :
  Calls Try.prog 81 #[.agg #[.int .i64 v,.int .u64 (m:Int)],.int .i64 s,.int .i64 b] w (Says (.tuple #[.int .i64 (plS v m s b),.int .i64 (plB v m s b)]) w):=by
 have hR:=fun W => key_Right v m hm W
 have hW:=fun W => key_Word v m hm W
 have hno:=@pl_no v m s b
 have hyes:=@pl_yes v m s b
 have hwl:=wordN_lt v m
 generalize plS v m s b=x at *
 generalize plB v m s b=y at *
 generalize wordN v m=q at *
 generalize rightK v m=r at *
 cases r
 ·obtain ⟨rfl,rfl⟩:=hno (by simp)
  have HR:=Lib.hid hR
  clear hno hyes hW hR hwl hm
  go_enter Try.func81,Try.ntmps81
  go_wp2_with fail
  refine (HR.out _).mono ?_
  rintro e w1 ⟨rfl,hb⟩
  have HB:=Lib.hid hb
  clear hb
  go_wp2
  go_ret2
  exact ⟨rfl,Below.trans ((Below.refl _ _).alloc (Nat.le_refl _) _) (HB.out.mono (by simp))⟩
 rcases (show s < 1 ∨ (1≤s∧b < 1) ∨ (1≤s∧1≤b) by omega) with h | ⟨h,h'⟩ | ⟨h,h'⟩
 ·obtain ⟨rfl,rfl⟩:=hno (by omega)
  have HR:=Lib.hid hR
  clear hno hyes hW hR hwl hm
  go_enter Try.func81,Try.ntmps81
  go_wp2_with fail
  refine (HR.out _).mono ?_
  rintro e w1 ⟨rfl,hb⟩
  have HB:=Lib.hid hb
  clear hb
  go_wp2
  go_ret2
  exact ⟨rfl,Below.trans ((Below.refl _ _).alloc (Nat.le_refl _) _) (HB.out.mono (by simp))⟩
 ·obtain ⟨rfl,rfl⟩:=hno (by omega)
  have HR:=Lib.hid hR
  clear hno hyes hW hR hwl hm
  go_enter Try.func81,Try.ntmps81
  go_wp2_with fail
  refine (HR.out _).mono ?_
  rintro e w1 ⟨rfl,hb⟩
  have HB:=Lib.hid hb
  clear hb
  go_wp2
  go_ret2
  exact ⟨rfl,Below.trans ((Below.refl _ _).alloc (Nat.le_refl _) _) (HB.out.mono (by simp))⟩
 ·obtain ⟨rfl,rfl⟩:=hyes ⟨rfl,h,h'⟩
  have hbd:=mixI_bd (q:Int)
  have hMX:=fun W => turn_Mix (q:Int) (by omega) W
  generalize mixI (q:Int)=z at *
  obtain ⟨Z,rfl⟩:=Int.eq_ofNat_of_zero_le hbd.1
  have hZ:Z < 18446744073709551616:=by omega
  have ws:=wrap_pos s ⟨h,hs⟩
  have wb:=wrap_pos b ⟨h',hb⟩
  have m1:=mod_w (Z:Int) s ⟨by omega,by omega⟩ ⟨h,hs⟩
  have m2:=mod_w ((Z:Int) / 4294967296) b ⟨by omega,by omega⟩ ⟨h',hb⟩
  have n1:¬ s=0:=by omega
  have n2:¬ b=0:=by omega
  have HR:=Lib.hid hR
  have HW:=Lib.hid hW
  have HM:=Lib.hid hMX
  clear hno hyes hW hR hwl hm hMX hbd
  go_enter Try.func81,Try.ntmps81
  go_wp2_with fail
  refine (HR.out _).mono ?_
  rintro e w1 ⟨rfl,hb1⟩
  obtain ⟨hc,hf⟩:=bcell hb1
  have c0:w1.cell? ⟨w.heap.size,0,none⟩=some (.int .i64 v):=by rw [hc _ _ (by simp)]; simp [go_sem]
  have c1:w1.cell? ⟨w.heap.size,1,none⟩=some (.int .u64 (m:Int)):=by rw [hc _ _ (by simp)]; simp [go_sem]
  have hB1:Below w.heap.size w w1:=Below.trans ((Below.refl _ _).alloc (Nat.le_refl _) _) (hb1.mono (by simp))
  clear hc hf hb1
  have hz1:=hB1.size
  go_wp2_with fail
  refine (HW.out _).mono ?_
  rintro e w2 ⟨rfl,hb2⟩
  have hB2:=hB1.trans (hb2.mono hz1)
  clear hb2 c0 c1 hB1
  go_wp2_with fail
  refine (HM.out _).mono ?_
  rintro e w3 ⟨rfl,rfl⟩
  go_wp2_with fail
  go_quiet (fail)
  go_wp2
  go_ret2
  exact ⟨by simp [m1,m2],below_drewN hB2 _⟩
end
section
open Go.RowKit
end
end Go.Proofs.Ytfekhdgjgjodlaa
