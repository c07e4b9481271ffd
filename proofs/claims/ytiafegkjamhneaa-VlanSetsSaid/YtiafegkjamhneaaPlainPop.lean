/-
  How many bits a number of 64 bits has, counted at once in each of its bytes. Nothing of the program is named here. No statement is proved here.
-/
import Derived.Test.YtiafegkjamhneaaPlainVlan
namespace Go.Proofs.Ytiafegkjamhneaa

/-- The bits below k. -/
def pcK (x : Nat) : Nat → Nat
  | 0 => 0
  | k + 1 => pcK x k + (x.testBit k).toNat
theorem pcK_le (x : Nat) : ∀ k, pcK x k ≤ k
  | 0 => Nat.le_refl _
  | k + 1 => by
    have := pcK_le x k
    rw [pcK]
    cases x.testBit k <;> simp <;> omega
theorem pcK_congr {x y : Nat} : ∀ k, (∀ i, i < k → x.testBit i = y.testBit i) → pcK x k = pcK y k
  | 0, _ => rfl
  | k + 1, h => by rw [pcK, pcK, pcK_congr k fun i hi => h i (by omega), h k (by omega)]
theorem pcK_split (x : Nat) : ∀ m, pcK x (8 + m) = pcK (x % 256) 8 + pcK (x / 256) m
  | 0 => by
    rw [Nat.add_zero, pcK, Nat.add_zero]
    refine pcK_congr 8 fun i hi => ?_
    have := Nat.testBit_mod_two_pow x 8 i
    rw [show (2 : Nat) ^ 8 = 256 from rfl] at this
    rw [this]
    simp [hi]
  | m + 1 => by
    rw [show 8 + (m + 1) = (8 + m) + 1 from rfl, pcK, pcK_split x m, pcK, Nat.add_assoc]
    congr 2
    have := Nat.testBit_shiftRight (i := 8) (j := m) x
    rw [Nat.shiftRight_eq_div_pow] at this
    rw [← this]
def tA (a : Nat) : Nat := (a / 2 &&& 85) + (a &&& 85)
def tB (a : Nat) : Nat := (a / 4 &&& 51) + (a &&& 51)
def tC (a : Nat) : Nat := (a / 16 + a) % 16
theorem t_all : ∀ a : Fin 256, tA a.1 < 256 ∧ tB (tA a.1) ≤ 68 ∧ tB (tA a.1) % 16 ≤ 4 ∧ tC (tB (tA a.1)) = pcK a.1 8 := by decide +kernel
theorem t_a1 : ∀ a : Fin 256, ∀ b : Fin 2, (a.1 / 2 + 128 * b.1) &&& 85 = a.1 / 2 &&& 85 := by decide +kernel
theorem t_b1 : ∀ a : Fin 256, ∀ b : Fin 4, (a.1 / 4 + 64 * b.1) &&& 51 = a.1 / 4 &&& 51 := by decide +kernel
theorem and_two {a c : Nat} (ha : a < 256) (hc : c < 256) (y m : Nat) : (a + 256 * y) &&& (c + 256 * m) = (a &&& c) + 256 * (y &&& m) := by
  have h : (a &&& c) < 256 := Nat.lt_of_le_of_lt Nat.and_le_left ha
  have e : ∀ {p q : Nat}, p < 256 → p + 256 * q = (q <<< 8) ||| p := by
    intro p q hp
    have := Nat.shiftLeft_add_eq_or_of_lt (i := 8) (b := p) hp q
    rw [Nat.shiftLeft_eq] at this ⊢
    omega
  rw [e ha, e hc, e h]
  apply Nat.eq_of_testBit_eq
  intro i
  have z : ∀ {p : Nat}, p < 256 → 8 ≤ i → p.testBit i = false := fun hp hi => Nat.testBit_lt_two_pow (Nat.lt_of_lt_of_le hp (show 2 ^ 8 ≤ 2 ^ i from Nat.pow_le_pow_right (by omega) hi))
  simp only [Nat.testBit_and, Nat.testBit_or, Nat.testBit_shiftLeft]
  by_cases hi : 8 ≤ i
  · rw [z ha hi, z hc hi]
    simp [hi]
  · simp [hi]
/-- A mask with the same byte n times. -/
def mk8 (c : Nat) : Nat → Nat
  | 0 => 0
  | n + 1 => c + 256 * mk8 c n
def sA (n x : Nat) : Nat := (x / 2 &&& mk8 85 n) + (x &&& mk8 85 n)
def sB (n x : Nat) : Nat := (x / 4 &&& mk8 51 n) + (x &&& mk8 51 n)
theorem sA_step (n : Nat) {a : Nat} (ha : a < 256) (y : Nat) : sA (n + 1) (a + 256 * y) = tA a + 256 * sA n y := by
  unfold sA tA
  have h1 : (a + 256 * y) / 2 = (a / 2 + 128 * (y % 2)) + 256 * (y / 2) := by omega
  have h2 : a / 2 + 128 * (y % 2) < 256 := by omega
  have h3 := t_a1 ⟨a, ha⟩ ⟨y % 2, by omega⟩
  simp only at h3
  rw [h1, mk8, and_two h2 (by omega), and_two ha (by omega), h3]
  omega
theorem sB_step (n : Nat) {a : Nat} (ha : a < 256) (y : Nat) : sB (n + 1) (a + 256 * y) = tB a + 256 * sB n y := by
  unfold sB tB
  have h1 : (a + 256 * y) / 4 = (a / 4 + 64 * (y % 4)) + 256 * (y / 4) := by omega
  have h2 : a / 4 + 64 * (y % 4) < 256 := by omega
  have h3 := t_b1 ⟨a, ha⟩ ⟨y % 4, by omega⟩
  simp only at h3
  rw [h1, mk8, and_two h2 (by omega), and_two ha (by omega), h3]
  omega
/-- The bytes' counts, in their places. -/
def byB (f : Nat → Nat) : Nat → Nat → Nat
  | 0, _ => 0
  | n + 1, x => f (x % 256) + 256 * byB f n (x / 256)
theorem sA_by : ∀ n x, x < 256 ^ n → sA n x = byB tA n x
  | 0, x, h => by simp at h; subst h; rfl
  | n + 1, x, h => by
    have hx : x / 256 < 256 ^ n := by rw [Nat.pow_succ] at h; omega
    have e : x = x % 256 + 256 * (x / 256) := by omega
    rw [byB, ← sA_by n _ hx, ← sA_step n (Nat.mod_lt _ (by omega)), ← e]
theorem sB_by : ∀ n x, x < 256 ^ n → sB n (byB tA n x) = byB (fun a => tB (tA a)) n x
  | 0, x, h => by simp [byB, sB, mk8]
  | n + 1, x, h => by
    have hx : x / 256 < 256 ^ n := by rw [Nat.pow_succ] at h; omega
    have ht := (t_all ⟨x % 256, Nat.mod_lt _ (by omega)⟩).1
    rw [byB, sB_step n ht, sB_by n _ hx, byB]
theorem byB_low (n x : Nat) : byB (fun a => tB (tA a)) n x % 16 ≤ 4 := by
  cases n with
  | zero => simp [byB]
  | succ n =>
    have ht := (t_all ⟨x % 256, Nat.mod_lt _ (by omega)⟩).2.2.1
    simp only at ht
    rw [byB]
    omega
def sC (n x : Nat) : Nat := (x / 16 + x) &&& mk8 15 n
theorem and15 (a : Nat) : a &&& 15 = a % 16 := by
  have := Nat.and_two_pow_sub_one_eq_mod a 4
  simpa using this
theorem sC_by : ∀ n x, x < 256 ^ n → sC n (byB (fun a => tB (tA a)) n x) = byB (fun a => pcK a 8) n x
  | 0, x, h => by simp [byB, sC, mk8]
  | n + 1, x, h => by
    have hx : x / 256 < 256 ^ n := by rw [Nat.pow_succ] at h; omega
    obtain ⟨_, h1, h2, h3⟩ := t_all ⟨x % 256, Nat.mod_lt _ (by omega)⟩
    simp only at h1 h2 h3
    have hl := byB_low n (x / 256)
    have ih := sC_by n _ hx
    rw [byB, byB, ← ih, ← h3]
    generalize byB (fun a => tB (tA a)) n (x / 256) = y at *
    generalize tB (tA (x % 256)) = a at *
    unfold sC tC
    have e : (a + 256 * y) / 16 + (a + 256 * y) = (a / 16 + 16 * (y % 16) + a) + 256 * (y / 16 + y) := by omega
    rw [e, mk8, and_two (by omega) (by omega), and15]
    congr 1
    omega
/-- The last steps: all bytes' counts together. -/
theorem sum_last {p0 p1 p2 p3 p4 p5 p6 p7 z z1 z2 z3 : Nat} (h0 : p0 ≤ 8) (h1 : p1 ≤ 8) (h2 : p2 ≤ 8) (h3 : p3 ≤ 8) (h4 : p4 ≤ 8) (h5 : p5 ≤ 8) (h6 : p6 ≤ 8) (h7 : p7 ≤ 8)
    (hz : z = p0 + 256 * (p1 + 256 * (p2 + 256 * (p3 + 256 * (p4 + 256 * (p5 + 256 * (p6 + 256 * p7))))))) (e1 : z1 = z + z / 256) (e2 : z2 = z1 + z1 / 65536) (e3 : z3 = z2 + z2 / 4294967296) :
    z ≤ 578721382704613384 ∧ z3 % 128 = p0 + p1 + p2 + p3 + p4 + p5 + p6 + p7 := by
  obtain ⟨r6, g6⟩ : ∃ r, r = p6 + 256 * p7 := ⟨_, rfl⟩
  rw [← g6] at hz
  obtain ⟨r5, g5⟩ : ∃ r, r = p5 + 256 * r6 := ⟨_, rfl⟩
  rw [← g5] at hz
  obtain ⟨r4, g4⟩ : ∃ r, r = p4 + 256 * r5 := ⟨_, rfl⟩
  rw [← g4] at hz
  obtain ⟨r3, g3⟩ : ∃ r, r = p3 + 256 * r4 := ⟨_, rfl⟩
  rw [← g3] at hz
  obtain ⟨r2, g2⟩ : ∃ r, r = p2 + 256 * r3 := ⟨_, rfl⟩
  rw [← g2] at hz
  obtain ⟨r1, g1⟩ : ∃ r, r = p1 + 256 * r2 := ⟨_, rfl⟩
  rw [← g1] at hz
  have b6 : r6 ≤ 2056 := by omega
  have b5 : r5 ≤ 526344 := by omega
  have b4 : r4 ≤ 134744072 := by omega
  have b3 : r3 ≤ 34494482440 := by omega
  have b2 : r2 ≤ 8830587504648 := by omega
  have b1 : r1 ≤ 2260630401189896 := by omega
  have b0 : z ≤ 578721382704613384 := by omega
  refine ⟨b0, ?_⟩
  clear b6 b5 b4 b3 b2 b1
  have a1 : z / 256 = r1 := by clear g1 g2 g3 g4 g5 g6 e1 e2 e3; omega
  rw [a1] at e1
  obtain ⟨s1, f1⟩ : ∃ s, s = r1 + r2 := ⟨_, rfl⟩
  obtain ⟨s2, f2⟩ : ∃ s, s = r2 + r3 := ⟨_, rfl⟩
  obtain ⟨s3, f3⟩ : ∃ s, s = r3 + r4 := ⟨_, rfl⟩
  obtain ⟨s4, f4⟩ : ∃ s, s = r4 + r5 := ⟨_, rfl⟩
  obtain ⟨s5, f5⟩ : ∃ s, s = r5 + r6 := ⟨_, rfl⟩
  obtain ⟨s6, f6⟩ : ∃ s, s = r6 + p7 := ⟨_, rfl⟩
  have q0 : z1 = (p0 + p1) + 256 * s1 := by clear e2 e3; omega
  have q1 : s1 = (p1 + p2) + 256 * s2 := by clear e1 e2 e3 q0; omega
  have q2 : s2 = (p2 + p3) + 256 * s3 := by clear e1 e2 e3 q0 q1; omega
  have q3 : s3 = (p3 + p4) + 256 * s4 := by clear e1 e2 e3 q0 q1 q2; omega
  have q4 : s4 = (p4 + p5) + 256 * s5 := by clear e1 e2 e3 q0 q1 q2 q3; omega
  have q5 : s5 = (p5 + p6) + 256 * s6 := by clear e1 e2 e3 q0 q1 q2 q3 q4; omega
  have q6 : s6 = (p6 + p7) + 256 * p7 := by clear e1 e2 e3 q0 q1 q2 q3 q4 q5; omega
  clear hz e1 a1 g1 g2 g3 g4 g5 g6 f1 f2 f3 f4 f5 f6 b0
  have a2 : z1 / 65536 = s2 := by clear q2 q3 q4 q5 q6 e2 e3; omega
  rw [a2] at e2
  obtain ⟨u1, f1⟩ : ∃ s, s = s1 + s3 := ⟨_, rfl⟩
  obtain ⟨u2, f2⟩ : ∃ s, s = s2 + s4 := ⟨_, rfl⟩
  obtain ⟨u3, f3⟩ : ∃ s, s = s3 + s5 := ⟨_, rfl⟩
  obtain ⟨u4, f4⟩ : ∃ s, s = s4 + s6 := ⟨_, rfl⟩
  have v0 : z2 = (p0 + p1 + p2 + p3) + 256 * u1 := by clear q1 q3 q4 q5 q6 e3; omega
  have v1 : u1 = (p1 + p2 + p3 + p4) + 256 * u2 := by clear q0 q2 q4 q5 q6 e2 e3 v0; omega
  have v2 : u2 = (p2 + p3 + p4 + p5) + 256 * u3 := by clear q0 q1 q3 q5 q6 e2 e3 v0 v1; omega
  have v3 : u3 = (p3 + p4 + p5 + p6) + 256 * u4 := by clear q0 q1 q2 q4 q6 e2 e3 v0 v1 v2; omega
  have v4 : u4 = (p4 + p5 + p6 + p7) + 256 * (s5 + p7) := by clear q0 q1 q2 q3 q5 e2 e3 v0 v1 v2 v3; omega
  clear q0 q1 q2 q3 q4 q5 q6 e2 f1 f2 f3 f4 a2
  have a3 : z2 / 4294967296 = u4 := by clear v4 e3; omega
  rw [a3] at e3
  generalize s5 + p7 = t at *
  clear a3 v1 v2 v3
  omega
theorem pcK_8 (y : Nat) : pcK (y % 256) 8 ≤ 8 := pcK_le _ _
/-- All the steps together. -/
theorem pop_all {x z z1 z2 z3 : Nat} (hx : x < 18446744073709551616) (hz : z = sC 8 (sB 8 (sA 8 x))) (e1 : z1 = z + z / 256) (e2 : z2 = z1 + z1 / 65536) (e3 : z3 = z2 + z2 / 4294967296) :
    z ≤ 578721382704613384 ∧ z3 % 128 = pcK x 64 := by
  have hx' : x < 256 ^ 8 := hx
  rw [sA_by 8 x hx', sB_by 8 x hx', sC_by 8 x hx'] at hz
  have h0 := pcK_split x 56
  have h1 := pcK_split (x / 256) 48
  have h2 := pcK_split (x / 256 / 256) 40
  have h3 := pcK_split (x / 256 / 256 / 256) 32
  have h4 := pcK_split (x / 256 / 256 / 256 / 256) 24
  have h5 := pcK_split (x / 256 / 256 / 256 / 256 / 256) 16
  have h6 := pcK_split (x / 256 / 256 / 256 / 256 / 256 / 256) 8
  have h7 := pcK_split (x / 256 / 256 / 256 / 256 / 256 / 256 / 256) 0
  simp only [byB, Nat.mul_zero, Nat.add_zero] at hz
  have := sum_last (pcK_8 x) (pcK_8 (x / 256)) (pcK_8 (x / 256 / 256)) (pcK_8 (x / 256 / 256 / 256)) (pcK_8 (x / 256 / 256 / 256 / 256)) (pcK_8 (x / 256 / 256 / 256 / 256 / 256)) (pcK_8 (x / 256 / 256 / 256 / 256 / 256 / 256)) (pcK_8 (x / 256 / 256 / 256 / 256 / 256 / 256 / 256)) (by rw [hz]) e1 e2 e3
  refine ⟨this.1, this.2.trans ?_⟩
  have z7 : pcK (x / 256 / 256 / 256 / 256 / 256 / 256 / 256 / 256) 0 = 0 := rfl
  simp only [Nat.reduceAdd] at h0 h1 h2 h3 h4 h5 h6 h7
  rw [z7] at h7
  rw [h0, h1, h2, h3, h4, h5, h6, h7]
  simp only [Nat.add_assoc, Nat.add_zero]
theorem sA_lt (x : Nat) : sA 8 x < 18446744073709551616 := by
  have h1 : x / 2 &&& mk8 85 8 ≤ mk8 85 8 := Nat.and_le_right
  have h2 : x &&& mk8 85 8 ≤ mk8 85 8 := Nat.and_le_right
  have h3 : mk8 85 8 = 6148914691236517205 := by decide
  unfold sA
  omega
theorem sB_lt (x : Nat) : sB 8 x < 18446744073709551616 := by
  have h1 : x / 4 &&& mk8 51 8 ≤ mk8 51 8 := Nat.and_le_right
  have h2 : x &&& mk8 51 8 ≤ mk8 51 8 := Nat.and_le_right
  have h3 : mk8 51 8 = 3689348814741910323 := by decide
  unfold sB
  omega
theorem sB_small (x : Nat) : sB 8 (sA 8 x) / 16 + sB 8 (sA 8 x) < 18446744073709551616 := by
  have h1 : sA 8 x / 4 &&& mk8 51 8 ≤ mk8 51 8 := Nat.and_le_right
  have h2 : sA 8 x &&& mk8 51 8 ≤ mk8 51 8 := Nat.and_le_right
  have h3 : mk8 51 8 = 3689348814741910323 := by decide
  unfold sB
  omega
end Go.Proofs.Ytiafegkjamhneaa
