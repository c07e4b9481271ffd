/-
  A whole step of an act. No statement is proved here.
-/
import Derived.Test.YtpojnknhmpmhjaaRgD
set_option linter.unusedVariables false
namespace Go.Proofs.Ytpojnknhmpmhjaa
open Go.RowKit

theorem place_q {w : World} {lo b rb : Nat} {g : RgS} (h : RingAt w lo b rb g) (x : Int) (n : Nat) :
    Calls Try.prog 50 #[.pointer (some ⟨rb, 0, none⟩), .int .u64 x] (w.drewN n) fun e w' => e = .returned (.int .i64 (placeN g x : Nat)) ∧ ∃ m, w' = w.drewN m :=
  (ring_place (h.below (below_drewN (Below.refl _ _) n)) x).mono fun _ _ ⟨h1, m, h2⟩ => ⟨h1, n + m, by rw [h2, World.drewN_drewN]⟩
theorem placeN_lt {g : RgS} (h : Fits g) (x : Int) : placeN g x < g.m.C := by
  unfold placeN
  have := h.cells
  have := Nat.mod_lt (dif x g.st).toNat (show 0 < g.sz from h.one)
  omega

set_option maxRecDepth 20000 in
set_option maxHeartbeats 3200000 in
theorem act_move {w : World} {lo b rb ab : Nat} {g : RgS} {a : AcS} (hr : RingAt w lo b rb g) (ha : ActAt w rb ab a) (h1 : lo + 3 ≤ ab) (h2 : ab ≠ rb) (ht : g.m.t ≤ 4611686018427387900) :
    Calls Try.prog 54 #[.pointer (some ⟨ab, 0, none⟩)] w (Did lo b rb ab (if a.puts then putR g (placeN g a.cnt) a.num else tickR g) (if a.puts then a else { a with num := g.m.c (placeN g a.cnt) }) (.tuple #[]) w) := by
  obtain ⟨s0, s1, s2, s3, s4, s5, s6⟩ := hr.at_
  obtain ⟨r0, r1, r2, r3, r4, r5, r6, r7⟩ := ha.at_
  have hlb : lo + 3 ≤ rb := hr.out
  have HPL := Lib.hid (fun n => place_q hr a.cnt n)
  have hpl := placeN_lt hr.fits a.cnt
  have HAF : Hid (∀ w0 w' m', Below w.heap.size w w0 → MemAt w' 81 lo b m' → Touch lo w0 w' → m'.C = g.m.C → RingAt w' lo b rb { g with m := m' } ∧ ActAt w' rb ab a ∧ Tch (RingD lo rb ab) w w') := fun w0 w' m' hb hm htt hC =>
    ⟨(hr.below hb).memory hm htt hC, (ha.below hb).touch htt h1, (Tch.of_below hb).touch htt⟩
  have hlt1 : ∀ n, ab < (w.drewN n).heap.size := fun n => ha.lt
  have hlt2 : ∀ n, rb < (w.drewN n).heap.size := fun n => hr.lt
  have HLD : Hid (∀ n, Calls Try.prog 51 #[.pointer (some ⟨b, 0, none⟩), .int .i64 (placeN g a.cnt : Nat)] (w.drewN n) (MemDid 81 lo b (tickS g.m) (.int .u64 (g.m.c (placeN g a.cnt))) (w.drewN n))) := fun n => by
    have := mem_Load ((placeN g a.cnt : Nat) : Int) (hr.below (below_drewN (Below.refl _ _) n)).mem (by omega)
    rw [loadS_k hpl, peekS_k hpl] at this
    exact this
  have HST : Hid (∀ n, Calls Try.prog 47 #[.pointer (some ⟨b, 0, none⟩), .int .i64 (placeN g a.cnt : Nat), .int .u64 a.num] (w.drewN n) (MemDid 81 lo b (putC (tickS g.m) (placeN g a.cnt) a.num) (.tuple #[]) (w.drewN n))) := fun n => by
    have := mem_Store ((placeN g a.cnt : Nat) : Int) a.num (hr.below (below_drewN (Below.refl _ _) n)).mem (by omega)
    rw [storeS_k hpl] at this
    exact this
  obtain ⟨pt, sg, CN, NM, ok, mk⟩ := a
  simp only at r1 r2 r3 r4 r5 r6 HPL HLD HST hpl ⊢
  cases pt
  · rw [if_neg (by simp), if_neg (by simp)]
    generalize hPL : placeN g CN = PL at *
    generalize hX : g.m.c PL = X at *
    clear hr ha ht hpl r2 r5 r6 r7 s1 s2 s3 s4 s5 s6 hPL hX HST
    go_enter Try.func54, Try.ntmps54
    go_wp2_with fail
    go_quiet (exact HPL.out _)
    go_wp2_with fail
    refine (HLD.out _).mono ?_
    rintro e w1 ⟨rfl, hm, ht'⟩
    obtain ⟨HR1, HA1, HT1⟩ := HAF.out _ _ _ (below_drewN (Below.refl _ _) _) hm ht' rfl
    obtain ⟨q0, q1, q2, q3, q4, q5, q6, q7⟩ := HA1.at_
    have hq7 := q7 4
    have HR2 : Hid (RingAt w1 lo b rb (tickR g)) := HR1
    have HA2 := Lib.hid HA1
    have HT2 := Lib.hid HT1
    clear hm ht' HR1 HA1 HT1 q7
    go_wp2
    go_end0
    exact ⟨rfl, HR2.out.setAct h1 h2 4 _, HA2.out.set_num X, HT2.out.act 4 _⟩
  · rw [if_pos rfl, if_pos rfl]
    generalize hPL : placeN g CN = PL at *
    clear hr ha ht hpl r2 r5 r6 r7 s1 s2 s3 s4 s5 s6 hPL HLD
    go_enter Try.func54, Try.ntmps54
    go_wp2_with fail
    go_quiet (exact HPL.out _)
    go_wp2_with fail
    go_region_held3 (fun w' => w'.cell? ⟨ab, 0, none⟩ = some (.pointer (some ⟨rb, 0, none⟩)) ∧ w'.cell? ⟨rb, 0, none⟩ = some (.pointer (some ⟨b, 0, none⟩)) ∧ w'.cell? ⟨ab, 4, none⟩ = some (.int .u64 NM)) (first | exact ⟨HX.out.2.1.at_.1, HX.out.1.at_.1, HX.out.2.1.at_.2.2.2.2.1⟩ | go_keep) (first
      | (go_at_call 47; (with_reducible refine Calls.mono (HST.out _) ?_); rintro e w1 ⟨rfl, hm, ht'⟩; have HX := Lib.hid (HAF.out _ _ _ (below_drewN (Below.refl _ _) _) hm ht' rfl)))
    go_wp2
    go_end0
    exact ⟨rfl, HX.out.1, HX.out.2.1, HX.out.2.2⟩
end Go.Proofs.Ytpojnknhmpmhjaa
