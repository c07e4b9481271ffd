/-
  Words and contracts that a statement's proof rests on (KeyD, SlotB, SlotC). No statement is proved here.
-/
import Derived.Deep.RegionHeld3
import Derived.Test.YthloabdfkakehaaGreatKeyB
import Derived.Test.YthloabdfkakehaaGreatKeyR
import Derived.Test.YthloabdfkakehaaGreatOpen
set_option linter.unusedVariables false
set_option linter.unusedSimpArgs false
namespace Go.Proofs.YthloabdfkakehaaGreat
section
open Go.RowKit
def plS (v:Int) (m:Nat) (s b:Int):Int:=if rightK v m=true∧1≤s∧1≤b then mixI (wordN v m:Nat) % s else 0
def plB (v:Int) (m:Nat) (s b:Int):Int:=if rightK v m=true∧1≤s∧1≤b then mixI (wordN v m:Nat) / 4294967296 % b else 0
theorem pl_no {v:Int} {m:Nat} {s b:Int} (h:¬ (rightK v m=true∧1≤s∧1≤b)):plS v m s b=0∧plB v m s b=0:=⟨if_neg h,if_neg h⟩
theorem pl_yes {v:Int} {m:Nat} {s b:Int} (h:rightK v m=true∧1≤s∧1≤b):plS v m s b=mixI (wordN v m:Nat) % s∧plB v m s b=mixI (wordN v m:Nat) / 4294967296 % b:=⟨if_pos h,if_pos h⟩
theorem mod_w (h s:Int) (h0:0≤h∧h < 18446744073709551616) (hs:1≤s∧s≤9223372036854775807):wrap64 (h % s)=h % s:=by
 have h1:=Int.emod_nonneg h (show s ≠ 0 by omega)
 have h2:=Int.emod_lt_of_pos h (show 0 < s by omega)
 unfold wrap64
 omega
theorem wrap_pos (s:Int) (hs:1≤s∧s≤9223372036854775807):IntKind.u64.wrap s=s:=by rw [IntKind.wrap_u64]; omega
set_option maxHeartbeats 1600000 in
theorem key_Place (v:Int) (m:Nat) (hm:m < 18446744073709551616) (s b:Int) (hs:s≤9223372036854775807) (hb:b≤9223372036854775807) (w:World) :
  Calls Tryz.prog 99 #[.agg #[.int .i64 v,.int .u64 (m:Int)],.int .i64 s,.int .i64 b] w (Says (.tuple #[.int .i64 (plS v m s b),.int .i64 (plB v m s b)]) w):=by
 have hR:=fun W => key_Right v m hm W
 have hW:=fun W => key_Word v m hm W
 have hno:=@pl_no v m s b
 have hyes:=@pl_yes v m s b
 have hwl:=wordN_lt v m
 generalize plS v m s b=x at *
 generalize plB v m s b=y at *
 generalize wordN v m=q at *
 generalize rightK v m=r at *
 cases r
 ·obtain ⟨rfl,rfl⟩:=hno (by simp)
  have HR:=Lib.hid hR
  clear hno hyes hW hR hwl hm
  go_enter Tryz.func99,Tryz.ntmps99
  go_wp2_with fail
  refine (HR.out _).mono ?_
  rintro e w1 ⟨rfl,hb⟩
  have HB:=Lib.hid hb
  clear hb
  go_wp2
  go_ret2
  exact ⟨rfl,Below.trans ((Below.refl _ _).alloc (Nat.le_refl _) _) (HB.out.mono (by simp))⟩
 rcases (show s < 1 ∨ (1≤s∧b < 1) ∨ (1≤s∧1≤b) by omega) with h | ⟨h,h'⟩ | ⟨h,h'⟩
 ·obtain ⟨rfl,rfl⟩:=hno (by omega)
  have HR:=Lib.hid hR
  clear hno hyes hW hR hwl hm
  go_enter Tryz.func99,Tryz.ntmps99
  go_wp2_with fail
  refine (HR.out _).mono ?_
  rintro e w1 ⟨rfl,hb⟩
  have HB:=Lib.hid hb
  clear hb
  go_wp2
  go_ret2
  exact ⟨rfl,Below.trans ((Below.refl _ _).alloc (Nat.le_refl _) _) (HB.out.mono (by simp))⟩
 ·obtain ⟨rfl,rfl⟩:=hno (by omega)
  have HR:=Lib.hid hR
  clear hno hyes hW hR hwl hm
  go_enter Tryz.func99,Tryz.ntmps99
  go_wp2_with fail
  refine (HR.out _).mono ?_
  rintro e w1 ⟨rfl,hb⟩
  have HB:=Lib.hid hb
  clear hb
  go_wp2
  go_ret2
  exact ⟨rfl,Below.trans ((Below.refl _ _).alloc (Nat.le_refl _) _) (HB.out.mono (by simp))⟩
 ·obtain ⟨rfl,rfl⟩:=hyes ⟨rfl,h,h'⟩
  have hbd:=mixI_bd (q:Int)
  have hMX:=fun W => turn_Mix (q:Int) (by omega) W
  generalize mixI (q:Int)=z at *
  obtain ⟨Z,rfl⟩:=Int.eq_ofNat_of_zero_le hbd.1
  have hZ:Z < 18446744073709551616:=by omega
  have ws:=wrap_pos s ⟨h,hs⟩
  have wb:=wrap_pos b ⟨h',hb⟩
  have m1:=mod_w (Z:Int) s ⟨by omega,by omega⟩ ⟨h,hs⟩
  have m2:=mod_w ((Z:Int) / 4294967296) b ⟨by omega,by omega⟩ ⟨h',hb⟩
  have n1:¬ s=0:=by omega
  have n2:¬ b=0:=by omega
  have HR:=Lib.hid hR
  have HW:=Lib.hid hW
  have HM:=Lib.hid hMX
  clear hno hyes hW hR hwl hm hMX hbd
  go_enter Tryz.func99,Tryz.ntmps99
  go_wp2_with fail
  refine (HR.out _).mono ?_
  rintro e w1 ⟨rfl,hb1⟩
  obtain ⟨hc,hf⟩:=bcell hb1
  have c0:w1.cell? ⟨w.heap.size,0,none⟩=some (.int .i64 v):=by rw [hc _ _ (by simp)]; simp [go_sem]
  have c1:w1.cell? ⟨w.heap.size,1,none⟩=some (.int .u64 (m:Int)):=by rw [hc _ _ (by simp)]; simp [go_sem]
  have hB1:Below w.heap.size w w1:=Below.trans ((Below.refl _ _).alloc (Nat.le_refl _) _) (hb1.mono (by simp))
  clear hc hf hb1
  have hz1:=hB1.size
  go_wp2_with fail
  refine (HW.out _).mono ?_
  rintro e w2 ⟨rfl,hb2⟩
  have hB2:=hB1.trans (hb2.mono hz1)
  clear hb2 c0 c1 hB1
  go_wp2_with fail
  refine (HM.out _).mono ?_
  rintro e w3 ⟨rfl,rfl⟩
  go_wp2_with fail
  go_quiet (fail)
  go_wp2
  go_ret2
  exact ⟨by simp [m1,m2],below_drewN hB2 _⟩
set_option maxHeartbeats 1600000 in
theorem ref8_Place (v:Int) (m:Nat) (hm:m < 18446744073709551616) (s b:Int) (hs:s≤9223372036854775807) (hb:b≤9223372036854775807) (w:World) :
  Calls Tryz.prog 28 #[.agg #[.int .i64 v,.int .u64 (m:Int)],.int .i64 s,.int .i64 b] w (Says (.tuple #[.int .i64 (plS v m s b),.int .i64 (plB v m s b)]) w):=by
 have hR:=fun W => ref8_Right v m hm W
 have hW:=fun W => ref8_Word v m hm W
 have hno:=@pl_no v m s b
 have hyes:=@pl_yes v m s b
 have hwl:=wordN_lt v m
 generalize plS v m s b=x at *
 generalize plB v m s b=y at *
 generalize wordN v m=q at *
 generalize rightK v m=r at *
 cases r
 ·obtain ⟨rfl,rfl⟩:=hno (by simp)
  have HR:=Lib.hid hR
  clear hno hyes hW hR hwl hm
  go_enter Tryz.func28,Tryz.ntmps28
  go_wp2_with fail
  refine (HR.out _).mono ?_
  rintro e w1 ⟨rfl,hb⟩
  have HB:=Lib.hid hb
  clear hb
  go_wp2
  go_ret2
  exact ⟨rfl,Below.trans ((Below.refl _ _).alloc (Nat.le_refl _) _) (HB.out.mono (by simp))⟩
 rcases (show s < 1 ∨ (1≤s∧b < 1) ∨ (1≤s∧1≤b) by omega) with h | ⟨h,h'⟩ | ⟨h,h'⟩
 ·obtain ⟨rfl,rfl⟩:=hno (by omega)
  have HR:=Lib.hid hR
  clear hno hyes hW hR hwl hm
  go_enter Tryz.func28,Tryz.ntmps28
  go_wp2_with fail
  refine (HR.out _).mono ?_
  rintro e w1 ⟨rfl,hb⟩
  have HB:=Lib.hid hb
  clear hb
  go_wp2
  go_ret2
  exact ⟨rfl,Below.trans ((Below.refl _ _).alloc (Nat.le_refl _) _) (HB.out.mono (by simp))⟩
 ·obtain ⟨rfl,rfl⟩:=hno (by omega)
  have HR:=Lib.hid hR
  clear hno hyes hW hR hwl hm
  go_enter Tryz.func28,Tryz.ntmps28
  go_wp2_with fail
  refine (HR.out _).mono ?_
  rintro e w1 ⟨rfl,hb⟩
  have HB:=Lib.hid hb
  clear hb
  go_wp2
  go_ret2
  exact ⟨rfl,Below.trans ((Below.refl _ _).alloc (Nat.le_refl _) _) (HB.out.mono (by simp))⟩
 ·obtain ⟨rfl,rfl⟩:=hyes ⟨rfl,h,h'⟩
  have hbd:=mixI_bd (q:Int)
  have hMX:=fun W => ref7_Mix (q:Int) (by omega) W
  generalize mixI (q:Int)=z at *
  obtain ⟨Z,rfl⟩:=Int.eq_ofNat_of_zero_le hbd.1
  have hZ:Z < 18446744073709551616:=by omega
  have ws:=wrap_pos s ⟨h,hs⟩
  have wb:=wrap_pos b ⟨h',hb⟩
  have m1:=mod_w (Z:Int) s ⟨by omega,by omega⟩ ⟨h,hs⟩
  have m2:=mod_w ((Z:Int) / 4294967296) b ⟨by omega,by omega⟩ ⟨h',hb⟩
  have n1:¬ s=0:=by omega
  have n2:¬ b=0:=by omega
  have HR:=Lib.hid hR
  have HW:=Lib.hid hW
  have HM:=Lib.hid hMX
  clear hno hyes hW hR hwl hm hMX hbd
  go_enter Tryz.func28,Tryz.ntmps28
  go_wp2_with fail
  refine (HR.out _).mono ?_
  rintro e w1 ⟨rfl,hb1⟩
  obtain ⟨hc,hf⟩:=bcell hb1
  have c0:w1.cell? ⟨w.heap.size,0,none⟩=some (.int .i64 v):=by rw [hc _ _ (by simp)]; simp [go_sem]
  have c1:w1.cell? ⟨w.heap.size,1,none⟩=some (.int .u64 (m:Int)):=by rw [hc _ _ (by simp)]; simp [go_sem]
  have hB1:Below w.heap.size w w1:=Below.trans ((Below.refl _ _).alloc (Nat.le_refl _) _) (hb1.mono (by simp))
  clear hc hf hb1
  have hz1:=hB1.size
  go_wp2_with fail
  refine (HW.out _).mono ?_
  rintro e w2 ⟨rfl,hb2⟩
  have hB2:=hB1.trans (hb2.mono hz1)
  clear hb2 c0 c1 hB1
  go_wp2_with fail
  refine (HM.out _).mono ?_
  rintro e w3 ⟨rfl,rfl⟩
  go_wp2_with fail
  go_quiet (fail)
  go_wp2
  go_ret2
  exact ⟨by simp [m1,m2],below_drewN hB2 _⟩
end
section
open Go.RowKit
def slotT (a b:Nat):Value :=
 if okE a b=true then .tuple #[.agg #[.int .i64 (vidW a:Int),.int .u64 (macW a:Nat),.int .i64 ((b % 256:Nat):Int),.bool (decide (b / 256 % 2=1)),.int .u32 ((b / 4294967296:Nat):Int)],.bool true]
 else .tuple #[.agg #[.int .i64 0,.int .u64 0,.int .i64 0,.bool false,.int .u32 0],.bool false]
theorem slotT_no {a b:Nat} (h:okE a b=false):slotT a b=.tuple #[.agg #[.int .i64 0,.int .u64 0,.int .i64 0,.bool false,.int .u32 0],.bool false]:=by
 unfold slotT; rw [h]; rfl
theorem slotT_yes {a b:Nat} (h:okE a b=true):slotT a b=.tuple #[.agg #[.int .i64 (vidW a:Int),.int .u64 (macW a:Nat),.int .i64 ((b % 256:Nat):Int),.bool (decide (b / 256 % 2=1)),.int .u32 ((b / 4294967296:Nat):Int)],.bool true]:=if_pos h
theorem okE_key {a b:Nat} (h:okW a=false):okE a b=false:=by unfold okE; rw [h]; rfl
set_option maxHeartbeats 3200000 in
theorem slot_Of (a b:Nat) (ha:a < 18446744073709551616) (hb:b < 18446744073709551616) (w:World) :
  Calls Tryz.prog 127 #[.int .u64 (a:Int),.int .u64 (b:Int)] w (Says (slotT a b) w):=by
 have hO:=fun W => key_Of a ha W
 have hno:=@slotT_no a b
 have hyes:=@slotT_yes a b
 have h1:bits .and .u64 (b:Int) 255=((b % 256:Nat):Int):=by
  have:=u64_and_nat b 255 hb (by omega)
  rw [and_255] at this
  exact this
 have h2:bits .and .u64 (b:Int) 256=((b / 256 % 2 * 256:Nat):Int):=by
  have:=u64_and_nat b 256 hb (by omega)
  rw [and_256] at this
  exact this
 have hst:decide (b / 256 % 2=1)=(((b / 256 % 2 * 256:Nat):Int) != 0):=by
  rcases (show b / 256 % 2=0 ∨ b / 256 % 2=1 by omega) with h | h <;> rw [h] <;> rfl
 have h3:(b:Int) / 4294967296=((b / 4294967296:Nat):Int):=by omega
 have hhi:b / 4294967296 < 4294967296:=by omega
 have hlo:b % 256 < 256:=Nat.mod_lt _ (by omega)
 cases hk:okW a
 ·rw [hno (okE_key hk)]
  rw [keyT_no hk] at hO
  have hW:=fun W => slot_Words 0 0 (by decide) ((b % 256:Nat):Int) (((b / 256 % 2 * 256:Nat):Int) != 0) (b / 4294967296) hhi W
  generalize wordA _=ya at hW
  generalize wordB _=yb at hW
  have HW:=Lib.hid hW
  clear hW
  have HO:=Lib.hid hO
  clear hno hyes hO hst
  generalize b % 256=P at *
  generalize b / 4294967296=hi at *
  generalize b / 256 % 2 * 256=X at *
  go_enter Tryz.func127,Tryz.ntmps127
  go_wp2_with fail
  refine (HO.out _).mono ?_
  rintro e w1 ⟨rfl,hb⟩
  obtain ⟨hc,hf⟩:=bcell hb
  have r0:w1.cell? ⟨w.heap.size,0,none⟩=some (.int .i64 0):=by rw [hc _ _ (by first | (simp; done) | (simp; omega) | omega)]; first | (simp [go_sem]; done) | assumption
  have r1:w1.cell? ⟨w.heap.size,1,none⟩=some (.int .u64 0):=by rw [hc _ _ (by first | (simp; done) | (simp; omega) | omega)]; first | (simp [go_sem]; done) | assumption
  have r2:w1.cell? ⟨w.heap.size,2,none⟩=some (.int .i64 0):=by rw [hc _ _ (by first | (simp; done) | (simp; omega) | omega)]; first | (simp [go_sem]; done) | assumption
  have r3:w1.cell? ⟨w.heap.size,3,none⟩=some (.bool false):=by rw [hc _ _ (by first | (simp; done) | (simp; omega) | omega)]; first | (simp [go_sem]; done) | assumption
  have r4:w1.cell? ⟨w.heap.size,4,none⟩=some (.int .u32 0):=by rw [hc _ _ (by first | (simp; done) | (simp; omega) | omega)]; first | (simp [go_sem]; done) | assumption
  have g:∀ o,w1.frozen? ⟨w.heap.size,o,none⟩=false:=fun o => by rw [hf _ _ (by first | (simp; done) | (simp; omega) | omega)]; first | (simp [go_sem]; done) | exact gp o
  have hB1:Below w.heap.size w w1:=Below.trans (by (repeat' (first | (with_reducible exact Below.refl _ _) | (with_reducible assumption) | (with_reducible refine Below.setCell ?_ ?_ _) | (with_reducible refine Below.alloc ?_ ?_ _) | (with_reducible refine below_drewN ?_ _) | (with_reducible refine Below.drew ?_) | go_size))) (hb.mono (by go_size))
  have hz1:w.heap.size + 1≤w1.heap.size:=by have:=hb.size; simp at this; omega
  clear hc hf hb
  go_wp2_with fail
  refine (HW.out _).mono ?_
  rintro e w2 ⟨rfl,hb⟩
  obtain ⟨hc,hf⟩:=bcell hb
  have hzz:=hb.size
  simp at hzz
  have y0:w2.cell? ⟨w1.heap.size + 1,0,none⟩=some (.int .i64 0):=by rw [hc _ _ (by first | (simp; done) | (simp; omega) | omega)]; simp [go_sem]
  have y1:w2.cell? ⟨w1.heap.size + 1,1,none⟩=some (.int .u64 0):=by rw [hc _ _ (by first | (simp; done) | (simp; omega) | omega)]; simp [go_sem]
  have y2:w2.cell? ⟨w1.heap.size + 1,2,none⟩=some (.int .i64 (P:Int)):=by rw [hc _ _ (by first | (simp; done) | (simp; omega) | omega)]; simp [go_sem]
  have y3:w2.cell? ⟨w1.heap.size + 1,3,none⟩=some (.bool ((X:Int) != 0)):=by rw [hc _ _ (by first | (simp; done) | (simp; omega) | omega)]; simp [go_sem]
  have y4:w2.cell? ⟨w1.heap.size + 1,4,none⟩=some (.int .u32 (hi:Int)):=by rw [hc _ _ (by first | (simp; done) | (simp; omega) | omega)]; simp [go_sem]
  have hbw:Below w1.heap.size w1 w2:=Below.trans (by (repeat' (first | (with_reducible exact Below.refl _ _) | (with_reducible assumption) | (with_reducible refine Below.setCell ?_ ?_ _) | (with_reducible refine Below.alloc ?_ ?_ _) | (with_reducible refine below_drewN ?_ _) | (with_reducible refine Below.drew ?_) | go_size))) (hb.mono (by go_size))
  clear hc hf hb
  obtain ⟨hc,hf⟩:=bcell hbw
  have s0:=(hc w.heap.size 0 (by omega)).trans r0
  have s1:=(hc w.heap.size 1 (by omega)).trans r1
  have s2:=(hc w.heap.size 2 (by omega)).trans r2
  have s3:=(hc w.heap.size 3 (by omega)).trans r3
  have s4:=(hc w.heap.size 4 (by omega)).trans r4
  have t0:∀ o,w2.frozen? ⟨w.heap.size,o,none⟩=false:=fun o => (hf w.heap.size o (by omega)).trans (g o)
  have hB2:Below w.heap.size w w2:=hB1.trans (hbw.mono (by omega))
  clear hc hf hbw hB1 r0 r1 r2 r3 r4 g
  go_wp2
  exact bodyPost_ret (v:=.tuple #[.agg #[.int .i64 0,.int .u64 0,.int .i64 0,.bool false,.int .u32 0],.bool false]) (by simp [results,Tryz.results127,go_sem,s0,s1,s2,s3,s4]) rfl ⟨rfl,(by (repeat' (first | (with_reducible exact Below.refl _ _) | (with_reducible assumption) | (with_reducible refine Below.setCell ?_ ?_ _) | (with_reducible refine Below.alloc ?_ ?_ _) | (with_reducible refine below_drewN ?_ _) | (with_reducible refine Below.drew ?_) | go_size)))⟩
 ·rw [keyT_yes hk] at hO
  have hW:=fun W => slot_Words (vidW a:Int) (macW a) (by unfold macW; omega) ((b % 256:Nat):Int) (((b / 256 % 2 * 256:Nat):Int) != 0) (b / 4294967296) hhi W
  have he:=okE_back a b hb hk
  have hen:entW a b=⟨(vidW a:Int),macW a,((b % 256:Nat):Int),(((b / 256 % 2 * 256:Nat):Int) != 0),b / 4294967296⟩:=by rw [← hst]; rfl
  rw [← hen] at hW
  have hyb:okE a b=true→wordB (entW a b)=b:=fun h => by rw [he] at h; exact of_decide_eq_true h
  have hyn:okE a b=false→wordB (entW a b) ≠ b:=fun h => by rw [he] at h; exact of_decide_eq_false h
  generalize wordA (entW a b)=ya at *
  generalize wordB (entW a b)=yb at *
  have HO:=Lib.hid hO
  clear hO he hen
  rw [hst] at hyes
  generalize vidW a=v at *
  generalize macW a=m at *
  cases hk2:okE a b
  ·rw [hno hk2]
   have hne:¬ (yb:Int)=(b:Int):=by have:=hyn hk2; omega
   have HW:=Lib.hid hW
   clear hno hyes hst hyb hyn hk2 hW
   generalize b % 256=P at *
   generalize b / 4294967296=hi at *
   generalize b / 256 % 2 * 256=X at *
   go_enter Tryz.func127,Tryz.ntmps127
   go_wp2_with fail
   refine (HO.out _).mono ?_
   rintro e w1 ⟨rfl,hb⟩
   obtain ⟨hc,hf⟩:=bcell hb
   have r0:w1.cell? ⟨w.heap.size,0,none⟩=some (.int .i64 0):=by rw [hc _ _ (by first | (simp; done) | (simp; omega) | omega)]; first | (simp [go_sem]; done) | assumption
   have r1:w1.cell? ⟨w.heap.size,1,none⟩=some (.int .u64 0):=by rw [hc _ _ (by first | (simp; done) | (simp; omega) | omega)]; first | (simp [go_sem]; done) | assumption
   have r2:w1.cell? ⟨w.heap.size,2,none⟩=some (.int .i64 0):=by rw [hc _ _ (by first | (simp; done) | (simp; omega) | omega)]; first | (simp [go_sem]; done) | assumption
   have r3:w1.cell? ⟨w.heap.size,3,none⟩=some (.bool false):=by rw [hc _ _ (by first | (simp; done) | (simp; omega) | omega)]; first | (simp [go_sem]; done) | assumption
   have r4:w1.cell? ⟨w.heap.size,4,none⟩=some (.int .u32 0):=by rw [hc _ _ (by first | (simp; done) | (simp; omega) | omega)]; first | (simp [go_sem]; done) | assumption
   have g:∀ o,w1.frozen? ⟨w.heap.size,o,none⟩=false:=fun o => by rw [hf _ _ (by first | (simp; done) | (simp; omega) | omega)]; first | (simp [go_sem]; done) | exact gp o
   have hB1:Below w.heap.size w w1:=Below.trans (by (repeat' (first | (with_reducible exact Below.refl _ _) | (with_reducible assumption) | (with_reducible refine Below.setCell ?_ ?_ _) | (with_reducible refine Below.alloc ?_ ?_ _) | (with_reducible refine below_drewN ?_ _) | (with_reducible refine Below.drew ?_) | go_size))) (hb.mono (by go_size))
   have hz1:w.heap.size + 1≤w1.heap.size:=by have:=hb.size; simp at this; omega
   clear hc hf hb
   go_wp2_with fail
   refine (HW.out _).mono ?_
   rintro e w2 ⟨rfl,hb⟩
   obtain ⟨hc,hf⟩:=bcell hb
   have hzz:=hb.size
   simp at hzz
   have y0:w2.cell? ⟨w1.heap.size + 1,0,none⟩=some (.int .i64 (v:Int)):=by rw [hc _ _ (by first | (simp; done) | (simp; omega) | omega)]; simp [go_sem]
   have y1:w2.cell? ⟨w1.heap.size + 1,1,none⟩=some (.int .u64 (m:Int)):=by rw [hc _ _ (by first | (simp; done) | (simp; omega) | omega)]; simp [go_sem]
   have y2:w2.cell? ⟨w1.heap.size + 1,2,none⟩=some (.int .i64 (P:Int)):=by rw [hc _ _ (by first | (simp; done) | (simp; omega) | omega)]; simp [go_sem]
   have y3:w2.cell? ⟨w1.heap.size + 1,3,none⟩=some (.bool ((X:Int) != 0)):=by rw [hc _ _ (by first | (simp; done) | (simp; omega) | omega)]; simp [go_sem]
   have y4:w2.cell? ⟨w1.heap.size + 1,4,none⟩=some (.int .u32 (hi:Int)):=by rw [hc _ _ (by first | (simp; done) | (simp; omega) | omega)]; simp [go_sem]
   have hbw:Below w1.heap.size w1 w2:=Below.trans (by (repeat' (first | (with_reducible exact Below.refl _ _) | (with_reducible assumption) | (with_reducible refine Below.setCell ?_ ?_ _) | (with_reducible refine Below.alloc ?_ ?_ _) | (with_reducible refine below_drewN ?_ _) | (with_reducible refine Below.drew ?_) | go_size))) (hb.mono (by go_size))
   clear hc hf hb
   obtain ⟨hc,hf⟩:=bcell hbw
   have s0:=(hc w.heap.size 0 (by omega)).trans r0
   have s1:=(hc w.heap.size 1 (by omega)).trans r1
   have s2:=(hc w.heap.size 2 (by omega)).trans r2
   have s3:=(hc w.heap.size 3 (by omega)).trans r3
   have s4:=(hc w.heap.size 4 (by omega)).trans r4
   have t0:∀ o,w2.frozen? ⟨w.heap.size,o,none⟩=false:=fun o => (hf w.heap.size o (by omega)).trans (g o)
   have hB2:Below w.heap.size w w2:=hB1.trans (hbw.mono (by omega))
   clear hc hf hbw hB1 r0 r1 r2 r3 r4 g
   go_wp2
   exact bodyPost_ret (v:=.tuple #[.agg #[.int .i64 0,.int .u64 0,.int .i64 0,.bool false,.int .u32 0],.bool false]) (by simp [results,Tryz.results127,go_sem,s0,s1,s2,s3,s4]) rfl ⟨rfl,(by (repeat' (first | (with_reducible exact Below.refl _ _) | (with_reducible assumption) | (with_reducible refine Below.setCell ?_ ?_ _) | (with_reducible refine Below.alloc ?_ ?_ _) | (with_reducible refine below_drewN ?_ _) | (with_reducible refine Below.drew ?_) | go_size)))⟩
  ·rw [hyes hk2]
   rw [hyb hk2] at hW
   have HW:=Lib.hid hW
   clear hno hyes hst hyb hyn hk2 hW
   generalize b % 256=P at *
   generalize b / 4294967296=hi at *
   generalize b / 256 % 2 * 256=X at *
   go_enter Tryz.func127,Tryz.ntmps127
   go_wp2_with fail
   refine (HO.out _).mono ?_
   rintro e w1 ⟨rfl,hb⟩
   obtain ⟨hc,hf⟩:=bcell hb
   have r0:w1.cell? ⟨w.heap.size,0,none⟩=some (.int .i64 0):=by rw [hc _ _ (by first | (simp; done) | (simp; omega) | omega)]; first | (simp [go_sem]; done) | assumption
   have r1:w1.cell? ⟨w.heap.size,1,none⟩=some (.int .u64 0):=by rw [hc _ _ (by first | (simp; done) | (simp; omega) | omega)]; first | (simp [go_sem]; done) | assumption
   have r2:w1.cell? ⟨w.heap.size,2,none⟩=some (.int .i64 0):=by rw [hc _ _ (by first | (simp; done) | (simp; omega) | omega)]; first | (simp [go_sem]; done) | assumption
   have r3:w1.cell? ⟨w.heap.size,3,none⟩=some (.bool false):=by rw [hc _ _ (by first | (simp; done) | (simp; omega) | omega)]; first | (simp [go_sem]; done) | assumption
   have r4:w1.cell? ⟨w.heap.size,4,none⟩=some (.int .u32 0):=by rw [hc _ _ (by first | (simp; done) | (simp; omega) | omega)]; first | (simp [go_sem]; done) | assumption
   have g:∀ o,w1.frozen? ⟨w.heap.size,o,none⟩=false:=fun o => by rw [hf _ _ (by first | (simp; done) | (simp; omega) | omega)]; first | (simp [go_sem]; done) | exact gp o
   have hB1:Below w.heap.size w w1:=Below.trans (by (repeat' (first | (with_reducible exact Below.refl _ _) | (with_reducible assumption) | (with_reducible refine Below.setCell ?_ ?_ _) | (with_reducible refine Below.alloc ?_ ?_ _) | (with_reducible refine below_drewN ?_ _) | (with_reducible refine Below.drew ?_) | go_size))) (hb.mono (by go_size))
   have hz1:w.heap.size + 1≤w1.heap.size:=by have:=hb.size; simp at this; omega
   clear hc hf hb
   go_wp2_with fail
   refine (HW.out _).mono ?_
   rintro e w2 ⟨rfl,hb⟩
   obtain ⟨hc,hf⟩:=bcell hb
   have hzz:=hb.size
   simp at hzz
   have y0:w2.cell? ⟨w1.heap.size + 1,0,none⟩=some (.int .i64 (v:Int)):=by rw [hc _ _ (by first | (simp; done) | (simp; omega) | omega)]; simp [go_sem]
   have y1:w2.cell? ⟨w1.heap.size + 1,1,none⟩=some (.int .u64 (m:Int)):=by rw [hc _ _ (by first | (simp; done) | (simp; omega) | omega)]; simp [go_sem]
   have y2:w2.cell? ⟨w1.heap.size + 1,2,none⟩=some (.int .i64 (P:Int)):=by rw [hc _ _ (by first | (simp; done) | (simp; omega) | omega)]; simp [go_sem]
   have y3:w2.cell? ⟨w1.heap.size + 1,3,none⟩=some (.bool ((X:Int) != 0)):=by rw [hc _ _ (by first | (simp; done) | (simp; omega) | omega)]; simp [go_sem]
   have y4:w2.cell? ⟨w1.heap.size + 1,4,none⟩=some (.int .u32 (hi:Int)):=by rw [hc _ _ (by first | (simp; done) | (simp; omega) | omega)]; simp [go_sem]
   have hbw:Below w1.heap.size w1 w2:=Below.trans (by (repeat' (first | (with_reducible exact Below.refl _ _) | (with_reducible assumption) | (with_reducible refine Below.setCell ?_ ?_ _) | (with_reducible refine Below.alloc ?_ ?_ _) | (with_reducible refine below_drewN ?_ _) | (with_reducible refine Below.drew ?_) | go_size))) (hb.mono (by go_size))
   clear hc hf hb
   obtain ⟨hc,hf⟩:=bcell hbw
   have s0:=(hc w.heap.size 0 (by omega)).trans r0
   have s1:=(hc w.heap.size 1 (by omega)).trans r1
   have s2:=(hc w.heap.size 2 (by omega)).trans r2
   have s3:=(hc w.heap.size 3 (by omega)).trans r3
   have s4:=(hc w.heap.size 4 (by omega)).trans r4
   have t0:∀ o,w2.frozen? ⟨w.heap.size,o,none⟩=false:=fun o => (hf w.heap.size o (by omega)).trans (g o)
   have hB2:Below w.heap.size w w2:=hB1.trans (hbw.mono (by omega))
   clear hc hf hbw hB1 r0 r1 r2 r3 r4 g
   go_wp2
   exact bodyPost_ret (v:=.tuple #[.agg #[.int .i64 (v:Int),.int .u64 (m:Int),.int .i64 (P:Int),.bool ((X:Int) != 0),.int .u32 (hi:Int)],.bool true]) (by simp [results,Tryz.results127,go_sem,s0,s1,s2,s3,s4]) rfl ⟨rfl,(by (repeat' (first | (with_reducible exact Below.refl _ _) | (with_reducible assumption) | (with_reducible refine Below.setCell ?_ ?_ _) | (with_reducible refine Below.alloc ?_ ?_ _) | (with_reducible refine below_drewN ?_ _) | (with_reducible refine Below.drew ?_) | go_size)))⟩
end
section
open Go.RowKit
theorem two_blocks' (w:World) (cs1 cs2:Array Value) (t1 t2:TypeId) :
  ∃ W,W=(w.alloc (.cells cs1 t1)).alloc (.cells cs2 t2)∧W.heap.size=w.heap.size + 2∧Below w.heap.size w W∧(∀ o v,cs1[o]?=some v→W.cell? ⟨w.heap.size,o,none⟩=some v)∧W.heap[w.heap.size + 1]?=some (.cells cs2 t2):=by
 refine ⟨_,rfl,by simp,((Below.refl _ _).alloc (Nat.le_refl _) _).alloc (by simp) _,?_,?_⟩
 ·intro o v h
  rw [World.cell?_alloc_lt _ _ _ (by simp),World.cell?_alloc_new]
  exact h
 ·have:=heap_alloc_new (w.alloc (.cells cs1 t1)) (.cells cs2 t2)
  simpa using this
theorem tgt_on' {W:World} {g:Nat} {cs:Array Value} {t:TypeId} (h:W.heap[g]?=some (.cells cs t)) (i:Nat) (v:Value) (hv:cs[i]?=some v):W.cell? ⟨g,i,none⟩=some v:=by
 simp [World.cell?,h,hv]
theorem tgt_free' {W:World} {g:Nat} {cs:Array Value} {t:TypeId} (h:W.heap[g]?=some (.cells cs t)) (i:Nat):W.frozen? ⟨g,i,none⟩=false:=by
 simp [World.frozen?,h]
theorem blank5 {W:World} {g:Nat} {t:TypeId} (h:W.heap[g]?=some (.cells #[.int .i64 0,.int .u64 0,.int .i64 0,.bool false,.int .u32 0] t)) :
  W.cell? ⟨g,0,none⟩=some (.int .i64 0)∧W.cell? ⟨g,1,none⟩=some (.int .u64 0)∧W.cell? ⟨g,2,none⟩=some (.int .i64 0)∧W.cell? ⟨g,3,none⟩=some (.bool false)∧W.cell? ⟨g,4,none⟩=some (.int .u32 0) ∧
  W.frozen? ⟨g,0,none⟩=false∧W.frozen? ⟨g,1,none⟩=false∧W.frozen? ⟨g,2,none⟩=false∧W.frozen? ⟨g,3,none⟩=false∧W.frozen? ⟨g,4,none⟩=false :=
 ⟨tgt_on' h 0 _ rfl,tgt_on' h 1 _ rfl,tgt_on' h 2 _ rfl,tgt_on' h 3 _ rfl,tgt_on' h 4 _ rfl,tgt_free' h 0,tgt_free' h 1,tgt_free' h 2,tgt_free' h 3,tgt_free' h 4⟩
theorem far5 {w:World} {b g:Nat} {u0 u1 u2 u3 u4:Value} {p:Addr} (hp:p.block=b) (hg:b ≠ g) :
  (((((w.setCell ⟨g,0,none⟩ u0).setCell ⟨g,1,none⟩ u1).setCell ⟨g,2,none⟩ u2).setCell ⟨g,3,none⟩ u3).setCell ⟨g,4,none⟩ u4).cell? p=w.cell? p:=by
 have h:∀ (W:World) (i:Nat) (u:Value),(W.setCell ⟨g,i,none⟩ u).cell? p=W.cell? p:=fun W i u => World.cell?_setCell_other W _ _ _ (by intro e; rw [← e] at hp; exact hg hp.symm)
 rw [h,h,h,h,h]
set_option maxHeartbeats 1600000 in
theorem law9_From (v m p:Int) (st:Bool) (s:Int) (w:World) :
  Calls Tryz.prog 93 #[.agg #[.int .i64 v,.int .u64 m,.int .i64 p,.bool st,.int .u32 s]] w (Says (.agg #[.int .i64 v,.int .u64 m,.int .i64 p,.bool st,.int .u32 s]) w):=by
 have HT:=Lib.hid fun W => law8_From v m W
 go_enter Tryz.func93,Tryz.ntmps93
 go_wp2_with fail
 obtain ⟨w0,hw0,hz0,hb0,hc0,ht0⟩:=two_blocks' w #[.int .i64 v,.int .u64 m,.int .i64 p,.bool st,.int .u32 s] #[.int .i64 0,.int .u64 0,.int .i64 0,.bool false,.int .u32 0] 146 121
 rw [← hw0]
 have r0:w0.cell? ⟨w.heap.size,0,none⟩=some (.int .i64 v):=hc0 0 _ rfl
 have r1:w0.cell? ⟨w.heap.size,1,none⟩=some (.int .u64 m):=hc0 1 _ rfl
 have r2:w0.cell? ⟨w.heap.size,2,none⟩=some (.int .i64 p):=hc0 2 _ rfl
 have r3:w0.cell? ⟨w.heap.size,3,none⟩=some (.bool st):=hc0 3 _ rfl
 have r4:w0.cell? ⟨w.heap.size,4,none⟩=some (.int .u32 s):=hc0 4 _ rfl
 have HB0:=Lib.hid hb0
 clear hw0 hc0 hb0
 go_region_held3 (fun w' => w'.cell? ⟨w.heap.size,0,none⟩=some (.int .i64 v)∧w'.cell? ⟨w.heap.size,1,none⟩=some (.int .u64 m)∧w'.cell? ⟨w.heap.size,2,none⟩=some (.int .i64 p)∧w'.cell? ⟨w.heap.size,3,none⟩=some (.bool st)∧w'.cell? ⟨w.heap.size,4,none⟩=some (.int .u32 s))
  (first | (with_reducible exact ⟨r0,r1,r2,r3,r4⟩) | (with_reducible exact kp5 (by assumption) (fun p hp => hb.cell (by rw [hp]; go_size))) | (with_reducible exact kp5 (by assumption) (fun p hp => far5 hp (by omega))) | go_keep)
  ((go_at_call 125; (with_reducible refine Calls.mono (HT.out _) ?_); rintro e w2 ⟨rfl,hb⟩; have qb:=(hb.block (w.heap.size + 1) (by go_size)).trans ht0; obtain ⟨k0,k1,k2,k3,k4,g0,g1,g2,g3,g4⟩:=blank5 qb; have hB2:Below w.heap.size w w2:=Below.trans HB0.out.drew (hb.mono (by go_size)); have hz2:w.heap.size + 2≤w2.heap.size:=(by have:=hb.size; (try simp at this); omega); clear qb))
 all_goals
  go_wp2
  exact bodyPost_ret (v:=.agg #[.int .i64 v,.int .u64 m,.int .i64 p,.bool st,.int .u32 s]) (by simp [results,Tryz.results93,go_sem,k0,k1,k2,k3,k4]) rfl ⟨rfl,(by (repeat' (first | (with_reducible exact Below.refl _ _) | (with_reducible assumption) | (with_reducible refine Below.setCell ?_ ?_ _) | (with_reducible refine Below.alloc ?_ ?_ _) | (with_reducible refine below_drewN ?_ _) | (with_reducible refine Below.drew ?_) | go_size)))⟩
end
end Go.Proofs.YthloabdfkakehaaGreat
