/-
  Arguments opened: a slice of floating words; a gauge by value. No statement is proved here.
-/
import Derived.Test.YtdgjgddobjhekaaOpenFl
namespace Go.Proofs.Ytdgjgddobjhekaa
open Go.ChangeShapes Go.WideShapes Go.RowKit Go.Deep

/-- A slice of floating words. -/
def FlRow (w : World) (B : Nat) (v : Value) (n : Nat) (L : Nat → Nat) : Prop :=
  ∃ A cap, v = .slice A n cap ∧ n ≤ cap ∧ cap ≤ maxLen ∧ (0 < n → ∃ b off, A = some ⟨b, off, none⟩ ∧ b < B ∧ ∀ i, i < n → w.cell? ⟨b, off + i, none⟩ = some (.float .f64 (L i)))
theorem FlRow.below {w w' : World} {B n : Nat} {v : Value} {L : Nat → Nat} (h : FlRow w B v n L) (hb : Below B w w') : FlRow w' B v n L := by
  obtain ⟨A, cap, hv, h1, h2, h3⟩ := h
  refine ⟨A, cap, hv, h1, h2, fun hn => ?_⟩
  obtain ⟨b, off, e, hbb, hc⟩ := h3 hn
  exact ⟨b, off, e, hbb, fun i hi => (hb.cell (p := ⟨b, off + i, none⟩) hbb).trans (hc i hi)⟩
section
variable {H : Type} {enc : TypeId × Value → H} {P : Program} {w : World} {base : Nat} {spare : Nat → Bool} {held : Bool}
theorem f64_wf {n : Nat} (h : (Lit.float .f64 n).wf = true) : n < 18446744073709551616 := by
  have : decide (n < 2 ^ 64) = true := h
  have := of_decide_eq_true this
  omega
theorem Holds1.f64 {t : TypeId} {u : Value} (h : Holds1 enc P w base spare held t u) (ht : P.underlying t = some (.float .f64)) : ∃ n : Nat, u = .float .f64 n ∧ n < 18446744073709551616 := by
  obtain ⟨m, y, hy⟩ := h
  cases m with
  | zero => simp [DataW.trod] at hy
  | succ m =>
    simp only [DataW.trod, ht] at hy
    split at hy <;> simp_all
    exact f64_wf (by simp_all)
theorem open_f64s {r : Reach} {b0 : Nat} {t e : TypeId} {v : Value} {d : DataW H} {p : List MemPlace} (ht : P.underlying t = some (.slice e)) (hl : leaves P 8 e = some [e]) (hC : P.cellsOf e = 1) (he : P.underlying e = some (.float .f64))
    (hv : Value.okWide P w r b0 t v) (h : DataW.Trod enc P w 0 (fun _ => true) held t v d p) :
    ∃ (n : Nat) (L : Nat → Nat), FlRow w w.heap.size v n L ∧ ∀ i, L i < 18446744073709551616 := by
  obtain ⟨A, n, cap, rfl, h1, h2, h3⟩ := open_flats ht hl hC (by simp) hv h
  rcases Nat.eq_zero_or_pos n with h0 | h0
  · exact ⟨n, fun _ => 0, ⟨A, cap, rfl, h1, h2, fun hn => absurd hn (by omega)⟩, fun _ => by show (0 : Nat) < 18446744073709551616; decide⟩
  · obtain ⟨b, off, rfl, hb, hc⟩ := h3 h0
    have hx : ∀ i, ∃ x : Nat, x < 18446744073709551616 ∧ (i < n → w.cell? ⟨b, off + i, none⟩ = some (.float .f64 x)) := by
      intro i
      rcases Nat.lt_or_ge i n with hi | hi
      · obtain ⟨u, hu, hh⟩ := hc i hi 0 e rfl
        obtain ⟨x, rfl, hxl⟩ := hh.f64 he
        refine ⟨x, hxl, fun _ => ?_⟩
        simpa using hu
      · exact ⟨0, by decide, fun h => absurd h (by omega)⟩
    exact ⟨n, fun i => Classical.choose (hx i), ⟨_, cap, rfl, h1, h2, fun _ => ⟨b, off, rfl, hb, fun i hi => (Classical.choose_spec (hx i)).2 hi⟩⟩, fun i => (Classical.choose_spec (hx i)).1⟩
theorem open_gauge {r : Reach} {b0 : Nat} {t t0 t1 t2 t3 : TypeId} {fs : Array Field} {v : Value} {d : DataW H} {p : List MemPlace} (hs : P.underlying t = some (.struct fs)) (hl : leaves P 8 t = some [t0, t1, t2, t3]) (hn : P.cellsOf t = 4) (h0 : P.underlying t0 = some (.float .f64)) (h1 : P.underlying t1 = some (.float .f64)) (h2 : P.underlying t2 = some (.float .f64)) (h3 : P.underlying t3 = some (.int .u32))
    (hv : Value.okWide P w r b0 t v) (h : DataW.Trod enc P w base spare held t v d p) :
    ∃ lv mo ro last : Nat, v = .agg #[.float .f64 lv, .float .f64 mo, .float .f64 ro, .int .u32 (last : Int)] ∧ lv < 18446744073709551616 ∧ mo < 18446744073709551616 ∧ ro < 18446744073709551616 ∧ last < 4294967296 := by
  obtain ⟨l, rfl, hlen, hf⟩ := open_flat hs hl hn hv h
  obtain ⟨u0, e0, g0⟩ := hf 0 t0 rfl
  obtain ⟨u1, e1, g1⟩ := hf 1 t1 rfl
  obtain ⟨u2, e2, g2⟩ := hf 2 t2 rfl
  obtain ⟨u3, e3, g3⟩ := hf 3 t3 rfl
  obtain ⟨lv, rfl, hlv⟩ := g0.f64 h0
  obtain ⟨mo, rfl, hmo⟩ := g1.f64 h1
  obtain ⟨ro, rfl, hro⟩ := g2.f64 h2
  obtain ⟨la, rfl, hla⟩ := g3.u32 h3
  match l, hlen with
  | [x, y, z, q], _ =>
    simp at e0 e1 e2 e3
    subst e0 e1 e2 e3
    exact ⟨lv, mo, ro, la, rfl, hlv, hmo, hro, hla⟩
end
end Go.Proofs.Ytdgjgddobjhekaa
