/-
  A ring as plain numbers: its counters, its places, what a step of an act makes of it, and the queue that it is. No statement is proved here.
-/
import Derived.Test.YtpojnknhmpmhjaaMemA
import Derived.Laws.Bits64
set_option linter.unusedVariables false
namespace Go.Proofs.Ytpojnknhmpmhjaa

/-- A memory, where the ring's cells begin, of how many it is, where its counters began; is a Push under way, a Pop? -/
structure RgS where
  m : MemS
  ba : Nat
  sz : Nat
  st : Int
  pu : Bool
  po : Bool
/-- An act: is it a Push; how far it is; its own counter; the number; was it put or taken; when. -/
structure AcS where
  puts : Bool
  stage : Nat
  cnt : Int
  num : Int
  ok : Bool
  mark : Int
def dif (x y : Int) : Int := (x - y) % 18446744073709551616
def waitN (sz : Nat) (x y : Int) : Int := if dif x y < (sz : Int) then dif x y else (sz : Int)
def placeN (g : RgS) (c : Int) : Nat := g.ba + 2 + (dif c g.st).toNat % g.sz
def ownN (g : RgS) (puts : Bool) : Nat := if puts then g.ba else g.ba + 1
def endR (g : RgS) (puts : Bool) : RgS := if puts then { g with pu := false } else { g with po := false }
def tickR (g : RgS) : RgS := { g with m := tickS g.m }
def putR (g : RgS) (k : Nat) (v : Int) : RgS := { g with m := putC (tickS g.m) k v }
/-- Is there room, is there a number? -/
def foundR (g : RgS) (a : AcS) : Bool := if a.puts then decide (waitN g.sz a.cnt (g.m.c (g.ba + 1)) < (g.sz : Int)) else decide (0 < waitN g.sz (g.m.c g.ba) a.cnt)
def stepR (g : RgS) (a : AcS) : RgS × AcS :=
  match a.stage with
  | 0 => (g, a)
  | 1 => (tickR g, { a with stage := 2, cnt := g.m.c (ownN g a.puts) })
  | 2 => if foundR g a then (tickR g, { a with stage := 3 }) else (endR (tickR g) a.puts, { a with stage := 0, ok := false, mark := g.m.t + 1 })
  | 3 => if a.puts then (putR g (placeN g a.cnt) a.num, { a with stage := 4 }) else (tickR g, { a with stage := 4, num := g.m.c (placeN g a.cnt) })
  | _ => (endR (putR g (ownN g a.puts) ((a.cnt + 1) % 18446744073709551616)) a.puts, { a with stage := 0, ok := true, mark := g.m.t + 1 })
/-- The cells are there. -/
structure Fits (g : RgS) : Prop where
  cells : g.ba + 2 + g.sz ≤ g.m.C
  mem : g.m.C ≤ 1048576
  one : 1 ≤ g.sz
  most : g.sz ≤ 64
theorem dif_nonneg (x y : Int) : 0 ≤ dif x y := by unfold dif; omega
theorem dif_lt (x y : Int) : dif x y < 18446744073709551616 := by unfold dif; omega
theorem dif_word (s : Int) (x y : Nat) (hxy : y ≤ x) (h : x - y < 18446744073709551616) : dif ((s + x) % 18446744073709551616) ((s + y) % 18446744073709551616) = ((x - y : Nat) : Int) := by
  unfold dif; omega
theorem dif_word0 (s : Int) (x : Nat) (hs : 0 ≤ s ∧ s < 18446744073709551616) (h : x < 18446744073709551616) : dif ((s + x) % 18446744073709551616) s = (x : Int) := by
  unfold dif; omega
theorem waitN_word (sz : Nat) (s : Int) (x y : Nat) (hxy : y ≤ x) (h : x - y ≤ sz) (hz : sz ≤ 64) : waitN sz ((s + x) % 18446744073709551616) ((s + y) % 18446744073709551616) = ((x - y : Nat) : Int) := by
  unfold waitN
  rw [dif_word s x y hxy (by omega)]
  split <;> omega
/-- The counters are p and t numbers from their start on; what waits are the numbers of q. -/
structure RngQ (g : RgS) (p t : Nat) (q : List Int) : Prop where
  fits : Fits g
  st0 : 0 ≤ g.st
  st1 : g.st < 18446744073709551616
  cp : g.m.c g.ba = (g.st + p) % 18446744073709551616
  ct : g.m.c (g.ba + 1) = (g.st + t) % 18446744073709551616
  tp : t ≤ p
  len : q.length = p - t
  room : p - t ≤ g.sz
  few : p ≤ 1000000
  num : ∀ i (h : i < q.length), g.m.c (g.ba + 2 + (t + i) % g.sz) = q[i]
theorem placeN_word {g : RgS} (hs : 0 ≤ g.st ∧ g.st < 18446744073709551616) (x : Nat) (h : x ≤ 1000000) : placeN g ((g.st + x) % 18446744073709551616) = g.ba + 2 + x % g.sz := by
  unfold placeN
  rw [dif_word0 g.st x hs (by omega)]
  simp
/-- What an act under way knows. -/
def PushK (g : RgS) (p t : Nat) (a : AcS) : Prop :=
  a.puts = true ∧ 1 ≤ a.stage ∧ a.stage ≤ 4 ∧ a.mark = 0 ∧ a.ok = false ∧ (2 ≤ a.stage → a.cnt = (g.st + p) % 18446744073709551616) ∧ (3 ≤ a.stage → p - t < g.sz) ∧ (a.stage = 4 → g.m.c (g.ba + 2 + p % g.sz) = a.num)
def PopK (g : RgS) (p t : Nat) (a : AcS) : Prop :=
  a.puts = false ∧ 1 ≤ a.stage ∧ a.stage ≤ 4 ∧ a.mark = 0 ∧ a.ok = false ∧ (2 ≤ a.stage → a.cnt = (g.st + t) % 18446744073709551616) ∧ (3 ≤ a.stage → t < p) ∧ (a.stage = 4 → g.m.c (g.ba + 2 + t % g.sz) = a.num)
/-- What a memory's cells from k on hold doesn't change with another one's. -/
theorem RngQ.tick {g : RgS} {p t : Nat} {q : List Int} (h : RngQ g p t q) : RngQ (tickR g) p t q :=
  ⟨⟨h.fits.cells, h.fits.mem, h.fits.one, h.fits.most⟩, h.st0, h.st1, h.cp, h.ct, h.tp, h.len, h.room, h.few, h.num⟩
theorem RngQ.end_ {g : RgS} {p t : Nat} {q : List Int} (h : RngQ g p t q) (b : Bool) : RngQ (endR g b) p t q := by
  cases b
  · exact ⟨⟨h.fits.cells, h.fits.mem, h.fits.one, h.fits.most⟩, h.st0, h.st1, h.cp, h.ct, h.tp, h.len, h.room, h.few, h.num⟩
  · exact ⟨⟨h.fits.cells, h.fits.mem, h.fits.one, h.fits.most⟩, h.st0, h.st1, h.cp, h.ct, h.tp, h.len, h.room, h.few, h.num⟩
theorem mod_ne {a b n : Nat} (hab : a < b) (h : b < a + n) : a % n ≠ b % n := by
  intro e
  have h1 := Nat.div_add_mod a n
  have h2 := Nat.div_add_mod b n
  rw [e] at h1
  have h3 : n * (a / n) < n * (b / n) := by omega
  have h4 : a / n < b / n := Nat.lt_of_mul_lt_mul_left h3
  have h5 : n * (a / n + 1) ≤ n * (b / n) := Nat.mul_le_mul_left _ h4
  rw [Nat.mul_add] at h5
  omega
/-- A number is stored behind all that wait. -/
theorem RngQ.put {g : RgS} {p t : Nat} {q : List Int} (h : RngQ g p t q) (hr : p - t < g.sz) (v : Int) : RngQ (putR g (g.ba + 2 + p % g.sz) v) p t q := by
  refine ⟨⟨h.fits.cells, h.fits.mem, h.fits.one, h.fits.most⟩, h.st0, h.st1, ?_, ?_, h.tp, h.len, h.room, h.few, fun i hi => ?_⟩
  · show (if g.ba = _ then _ else _) = _
    rw [if_neg (by omega)]; exact h.cp
  · show (if g.ba + 1 = _ then _ else _) = _
    rw [if_neg (by omega)]; exact h.ct
  · show (if g.ba + 2 + (t + i) % g.sz = _ then _ else _) = _
    have := h.len
    have := h.tp
    rw [if_neg (by have := mod_ne (a := t + i) (b := p) (n := g.sz) (by omega) (by omega); omega)]
    exact h.num i hi
/-- The counter of what was put goes on. -/
theorem RngQ.push {g : RgS} {p t : Nat} {q : List Int} (h : RngQ g p t q) (hr : p - t < g.sz) (hf : p + 1 ≤ 1000000) {v : Int} (hv : g.m.c (g.ba + 2 + p % g.sz) = v) :
    RngQ (putR g g.ba (((g.st + p) % 18446744073709551616 + 1) % 18446744073709551616)) (p + 1) t (q ++ [v]) := by
  have hl := h.len
  have htp := h.tp
  refine ⟨⟨h.fits.cells, h.fits.mem, h.fits.one, h.fits.most⟩, h.st0, h.st1, ?_, ?_, by omega, by simp; omega, by show p + 1 - t ≤ g.sz; omega, hf, fun i hi => ?_⟩
  · show (if g.ba = g.ba then _ else _) = (g.st + ((p + 1 : Nat) : Int)) % _
    rw [if_pos rfl]; omega
  · show (if g.ba + 1 = g.ba then _ else _) = _
    rw [if_neg (by omega)]; exact h.ct
  · show (if g.ba + 2 + (t + i) % g.sz = g.ba then _ else _) = _
    rw [if_neg (by omega)]
    by_cases hi2 : i < q.length
    · rw [List.getElem_append_left hi2]; exact h.num i hi2
    · have : i = p - t := by simp at hi; omega
      rw [List.getElem_append_right (by omega)]
      simp
      rw [show t + i = p by omega]; exact hv
/-- The counter of what was taken goes on. -/
theorem RngQ.pop {g : RgS} {p t : Nat} {x : Int} {q : List Int} (h : RngQ g p t (x :: q)) :
    RngQ (putR g (g.ba + 1) (((g.st + t) % 18446744073709551616 + 1) % 18446744073709551616)) p (t + 1) q ∧ g.m.c (g.ba + 2 + t % g.sz) = x := by
  have hl := h.len
  have htp := h.tp
  simp at hl
  constructor
  · refine ⟨⟨h.fits.cells, h.fits.mem, h.fits.one, h.fits.most⟩, h.st0, h.st1, ?_, ?_, by omega, by omega, by show p - (t + 1) ≤ g.sz; have := h.room; omega, h.few, fun i hi => ?_⟩
    · show (if g.ba = g.ba + 1 then _ else _) = _
      rw [if_neg (by omega)]; exact h.cp
    · show (if g.ba + 1 = g.ba + 1 then _ else _) = (g.st + ((t + 1 : Nat) : Int)) % _
      rw [if_pos rfl]; omega
    · show (if g.ba + 2 + (t + 1 + i) % g.sz = g.ba + 1 then _ else _) = _
      rw [if_neg (by omega)]
      have := h.num (i + 1) (by simp; omega)
      rw [show t + (i + 1) = t + 1 + i by omega] at this
      exact this
  · have := h.num 0 (by simp)
    simpa using this
/-- What a step of a Push makes, with what a Pop knows. -/
inductive PushS (g : RgS) (p t : Nat) (q : List Int) (a : AcS) (g' : RgS) (a' : AcS) : Prop
  | on (h : RngQ g' p t q) (k : PushK g' p t a') (hp : g'.pu = g.pu)
  | did (h : RngQ g' (p + 1) t (q ++ [a.num])) (hs : a'.stage = 0) (ho : a'.ok = true) (hm : a'.mark = g'.m.t) (hq : q.length < g.sz) (hp : g'.pu = false)
  | full (h : RngQ g' p t q) (hs : a'.stage = 0) (ho : a'.ok = false) (hm : a'.mark = g'.m.t) (hq : q.length = g.sz) (hp : g'.pu = false)
inductive PopS (g : RgS) (p t : Nat) (q : List Int) (a : AcS) (g' : RgS) (a' : AcS) : Prop
  | on (h : RngQ g' p t q) (k : PopK g' p t a') (hp : g'.po = g.po)
  | did (x : Int) (r : List Int) (e : q = x :: r) (h : RngQ g' p (t + 1) r) (hs : a'.stage = 0) (ho : a'.ok = true) (hn : a'.num = x) (hm : a'.mark = g'.m.t) (hp : g'.po = false)
  | none (e : q = []) (h : RngQ g' p t q) (hs : a'.stage = 0) (ho : a'.ok = false) (hm : a'.mark = g'.m.t) (hp : g'.po = false)
/-- What stays by each step. -/
structure StayR (g : RgS) (a : AcS) (g' : RgS) (a' : AcS) : Prop where
  ba : g'.ba = g.ba
  sz : g'.sz = g.sz
  st : g'.st = g.st
  C : g'.m.C = g.m.C
  t : g'.m.t = g.m.t + 1
  puts : a'.puts = a.puts
  most : a'.stage ≤ 4
  more : a'.stage = 0 ∨ a'.stage = a.stage + 1
theorem stayR (g : RgS) (a : AcS) (h1 : 1 ≤ a.stage) (h2 : a.stage ≤ 4) : StayR g a (stepR g a).1 (stepR g a).2 := by
  obtain ⟨pt, sg, cn, nm, ok, mk⟩ := a
  have : sg = 1 ∨ sg = 2 ∨ sg = 3 ∨ sg = 4 := by simp at h1 h2; omega
  rcases this with rfl | rfl | rfl | rfl
  · exact ⟨rfl, rfl, rfl, rfl, rfl, rfl, by simp [stepR], .inr rfl⟩
  · simp only [stepR]
    split
    · exact ⟨rfl, rfl, rfl, rfl, rfl, rfl, by simp, .inr rfl⟩
    · cases pt <;> exact ⟨rfl, rfl, rfl, rfl, rfl, rfl, by simp, .inl rfl⟩
  · cases pt <;> exact ⟨rfl, rfl, rfl, rfl, rfl, rfl, by simp [stepR], .inr rfl⟩
  · cases pt <;> exact ⟨rfl, rfl, rfl, rfl, rfl, rfl, by simp [stepR], .inl rfl⟩
theorem push_step {g : RgS} {p t : Nat} {q : List Int} {a : AcS} (h : RngQ g p t q) (k : PushK g p t a) (hf : p + 1 ≤ 1000000) : PushS g p t q a (stepR g a).1 (stepR g a).2 ∧ (stepR g a).2.num = a.num ∧ (stepR g a).1.po = g.po := by
  obtain ⟨pt, sg, cn, nm, ok, mk⟩ := a
  obtain ⟨k1, k2, k3, k4, k5, k6, k7, k8⟩ := k
  simp only at k1 k2 k3 k4 k5 k6 k7 k8
  subst k1 k4 k5
  have hl := h.len
  have hr := h.room
  have htp := h.tp
  have hz := h.fits.most
  have hsg : sg = 1 ∨ sg = 2 ∨ sg = 3 ∨ sg = 4 := by omega
  rcases hsg with rfl | rfl | rfl | rfl
  · exact ⟨.on h.tick ⟨rfl, by simp [stepR], by simp [stepR], rfl, rfl, fun _ => h.cp, fun hh => by simp [stepR] at hh, fun hh => by simp [stepR] at hh⟩ rfl, rfl, rfl⟩
  · have hc := k6 (by omega)
    have hw : waitN g.sz cn (g.m.c (g.ba + 1)) = ((p - t : Nat) : Int) := by rw [hc, h.ct]; exact waitN_word g.sz g.st p t htp hr hz
    have hfd : foundR g ⟨true, 2, cn, nm, false, 0⟩ = decide (p - t < g.sz) := by
      unfold foundR
      rw [if_pos rfl]
      show decide (waitN g.sz cn (g.m.c (g.ba + 1)) < (g.sz : Int)) = _
      rw [hw]
      simp only [Int.ofNat_lt]
    simp only [stepR, hfd]
    by_cases hlt : p - t < g.sz
    · rw [if_pos (by simpa using hlt)]
      exact ⟨.on h.tick ⟨rfl, by simp, by simp, rfl, rfl, fun _ => hc, fun _ => hlt, fun hh => by simp at hh⟩ rfl, rfl, rfl⟩
    · rw [if_neg (by simpa using hlt)]
      exact ⟨.full (h.tick.end_ true) rfl rfl rfl (by omega) rfl, rfl, rfl⟩
  · have hc := k6 (by omega)
    have hlt := k7 (by omega)
    have hpl : placeN g cn = g.ba + 2 + p % g.sz := by rw [hc]; exact placeN_word ⟨h.st0, h.st1⟩ p h.few
    simp only [stepR, if_true, hpl]
    refine ⟨.on (h.put hlt nm) ⟨rfl, by simp, by simp, rfl, rfl, fun _ => hc, fun _ => hlt, fun _ => ?_⟩ rfl, by first | rfl | trivial, by first | rfl | trivial⟩
    exact if_pos rfl
  · have hc := k6 (by omega)
    have hlt := k7 (by omega)
    have hn := k8 rfl
    simp only [stepR, ownN, if_true]
    refine ⟨.did ?_ (by first | rfl | trivial) (by first | rfl | trivial) (by first | rfl | trivial) (by omega) (by first | rfl | trivial), by first | rfl | trivial, by first | rfl | trivial⟩
    rw [hc]
    exact (h.push hlt hf hn).end_ true
theorem pop_step {g : RgS} {p t : Nat} {q : List Int} {a : AcS} (h : RngQ g p t q) (k : PopK g p t a) : PopS g p t q a (stepR g a).1 (stepR g a).2 ∧ (stepR g a).1.pu = g.pu := by
  obtain ⟨pt, sg, cn, nm, ok, mk⟩ := a
  obtain ⟨k1, k2, k3, k4, k5, k6, k7, k8⟩ := k
  simp only at k1 k2 k3 k4 k5 k6 k7 k8
  subst k1 k4 k5
  have hl := h.len
  have hr := h.room
  have htp := h.tp
  have hz := h.fits.most
  have hsg : sg = 1 ∨ sg = 2 ∨ sg = 3 ∨ sg = 4 := by omega
  rcases hsg with rfl | rfl | rfl | rfl
  · exact ⟨.on h.tick ⟨rfl, by simp [stepR], by simp [stepR], rfl, rfl, fun _ => h.ct, fun hh => by simp [stepR] at hh, fun hh => by simp [stepR] at hh⟩ rfl, rfl⟩
  · have hc := k6 (by omega)
    have hw : waitN g.sz (g.m.c g.ba) cn = ((p - t : Nat) : Int) := by rw [hc, h.cp]; exact waitN_word g.sz g.st p t htp hr hz
    have hfd : foundR g ⟨false, 2, cn, nm, false, 0⟩ = decide (t < p) := by
      unfold foundR
      rw [if_neg (by simp)]
      show decide (0 < waitN g.sz (g.m.c g.ba) cn) = _
      rw [hw]
      by_cases hlt : t < p
      · rw [decide_eq_true (by omega), decide_eq_true hlt]
      · rw [decide_eq_false (by omega), decide_eq_false hlt]
    simp only [stepR, hfd]
    by_cases hlt : t < p
    · rw [if_pos (by simpa using hlt)]
      exact ⟨.on h.tick ⟨rfl, by simp, by simp, rfl, rfl, fun _ => hc, fun _ => hlt, fun hh => by simp at hh⟩ rfl, rfl⟩
    · rw [if_neg (by simpa using hlt)]
      exact ⟨.none (List.length_eq_zero_iff.1 (by omega)) (h.tick.end_ false) rfl rfl rfl rfl, rfl⟩
  · have hc := k6 (by omega)
    have hlt := k7 (by omega)
    have hpl : placeN g cn = g.ba + 2 + t % g.sz := by rw [hc]; exact placeN_word ⟨h.st0, h.st1⟩ t (by have := h.few; omega)
    simp only [stepR, Bool.false_eq_true, if_false, hpl]
    exact ⟨.on h.tick ⟨rfl, by simp, by simp, rfl, rfl, fun _ => hc, fun _ => hlt, fun _ => by first | rfl | trivial⟩ (by first | rfl | trivial), by first | rfl | trivial⟩
  · have hc := k6 (by omega)
    have hlt := k7 (by omega)
    have hn := k8 rfl
    simp only [stepR, ownN, Bool.false_eq_true, if_false]
    match q, h, hl with
    | [], h, hl => simp at hl; omega
    | x :: r, h, hl =>
      obtain ⟨h1, h2⟩ := h.pop
      refine ⟨.did x r rfl ?_ (by first | rfl | trivial) (by first | rfl | trivial) ?_ (by first | rfl | trivial) (by first | rfl | trivial), by first | rfl | trivial⟩
      · rw [hc]; exact h1.end_ false
      · exact hn.symm.trans h2
/-- What the other one knows stays so. -/
theorem PopK.push_step {g : RgS} {p t : Nat} {q : List Int} {a b : AcS} (h : RngQ g p t q) (k : PushK g p t a) (hf : p + 1 ≤ 1000000) (o : PopK g p t b) : PopK (stepR g a).1 p t b ∧ PopK (stepR g a).1 (p + 1) t b := by
  obtain ⟨o1, o2, o3, o4, o5, o6, o7, o8⟩ := o
  have key : (stepR g a).1.st = g.st ∧ (stepR g a).1.sz = g.sz ∧ (stepR g a).1.ba = g.ba ∧ (t < p → (stepR g a).1.m.c (g.ba + 2 + t % g.sz) = g.m.c (g.ba + 2 + t % g.sz)) := by
    obtain ⟨pt, sg, cn, nm, ok, mk⟩ := a
    obtain ⟨k1, k2, k3, k4, k5, k6, k7, k8⟩ := k
    simp only at k1 k2 k3 k4 k5 k6 k7 k8
    subst k1
    have hsg : sg = 1 ∨ sg = 2 ∨ sg = 3 ∨ sg = 4 := by omega
    rcases hsg with rfl | rfl | rfl | rfl
    · exact ⟨rfl, rfl, rfl, fun _ => rfl⟩
    · simp only [stepR]
      split <;> exact ⟨rfl, rfl, rfl, fun _ => rfl⟩
    · have hc := k6 (by omega)
      have hlt := k7 (by omega)
      have hpl : placeN g cn = g.ba + 2 + p % g.sz := by rw [hc]; exact placeN_word ⟨h.st0, h.st1⟩ p h.few
      simp only [stepR, if_true, hpl]
      refine ⟨rfl, rfl, rfl, fun htp => ?_⟩
      show (if _ = _ then _ else _) = _
      rw [if_neg (by have := mod_ne (a := t) (b := p) (n := g.sz) htp (by omega); omega)]
      rfl
    · simp only [stepR, ownN, if_true]
      refine ⟨rfl, rfl, rfl, fun htp => ?_⟩
      show (if _ = _ then _ else _) = _
      rw [if_neg (by omega)]
      rfl
  obtain ⟨e1, e2, e3, e4⟩ := key
  constructor
  · refine ⟨o1, o2, o3, o4, o5, fun hh => by rw [e1]; exact o6 hh, o7, fun hh => by rw [e2, e3, e4 (o7 (by omega))]; exact o8 hh⟩
  · refine ⟨o1, o2, o3, o4, o5, fun hh => by rw [e1]; exact o6 hh, fun hh => by have := o7 hh; omega, fun hh => by rw [e2, e3, e4 (o7 (by omega))]; exact o8 hh⟩
theorem PushK.pop_step {g : RgS} {p t : Nat} {q : List Int} {a b : AcS} (h : RngQ g p t q) (k : PopK g p t a) (o : PushK g p t b) : PushK (stepR g a).1 p t b ∧ PushK (stepR g a).1 p (t + 1) b := by
  obtain ⟨o1, o2, o3, o4, o5, o6, o7, o8⟩ := o
  have key : (stepR g a).1.st = g.st ∧ (stepR g a).1.sz = g.sz ∧ (stepR g a).1.ba = g.ba ∧ (stepR g a).1.m.c (g.ba + 2 + p % g.sz) = g.m.c (g.ba + 2 + p % g.sz) := by
    obtain ⟨pt, sg, cn, nm, ok, mk⟩ := a
    obtain ⟨k1, k2, k3, k4, k5, k6, k7, k8⟩ := k
    simp only at k1 k2 k3 k4 k5 k6 k7 k8
    subst k1
    have hsg : sg = 1 ∨ sg = 2 ∨ sg = 3 ∨ sg = 4 := by omega
    rcases hsg with rfl | rfl | rfl | rfl
    · exact ⟨rfl, rfl, rfl, rfl⟩
    · simp only [stepR]
      split <;> exact ⟨rfl, rfl, rfl, rfl⟩
    · simp only [stepR, Bool.false_eq_true, if_false]
      exact ⟨rfl, rfl, rfl, rfl⟩
    · simp only [stepR, ownN, Bool.false_eq_true, if_false]
      refine ⟨rfl, rfl, rfl, ?_⟩
      show (if _ = _ then _ else _) = _
      rw [if_neg (by omega)]
      rfl
  obtain ⟨e1, e2, e3, e4⟩ := key
  constructor
  · exact ⟨o1, o2, o3, o4, o5, fun hh => by rw [e1]; exact o6 hh, fun hh => by rw [e2]; exact o7 hh, fun hh => by rw [e2, e3, e4]; exact o8 hh⟩
  · exact ⟨o1, o2, o3, o4, o5, fun hh => by rw [e1]; exact o6 hh, fun hh => by rw [e2]; have := o7 hh; omega, fun hh => by rw [e2, e3, e4]; exact o8 hh⟩
end Go.Proofs.Ytpojnknhmpmhjaa
