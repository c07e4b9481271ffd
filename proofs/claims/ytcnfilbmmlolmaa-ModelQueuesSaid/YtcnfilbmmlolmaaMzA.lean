/-
  Several texts in one: Base, Open, OpenFl, Plain, PlainVlan, PlainVl, OpenVl, PlainVlanB, PlainVlanC, PlainMo, Kit, PlainFrame, Kit2, Base2, PlainKy, Ticks, PlainBu, Keep, Base3, Store, Words, Row, PlainPt, PlainFx. No statement is proved here.
-/
import Derived.Below
import Derived.WalkKit
import Derived.WalkSpells
import Derived.Laws.OwnMore
import Derived.Maps.AppendAt
import Derived.Deep.AppendLies
import Derived.ProofKit
import Derived.OpenShut
import Derived.ChangeSame
import Derived.ChangeOld
import Derived.Carry
import Derived.Handy
import Derived.Deep.Draws
import Derived.Deep.Slices
import Derived.Deep.Fields
import Derived.Laws.BitsAllLaws
import Derived.Test.YtcnfilbmmlolmaaProg
import Derived.WalkLawsBesides
import Derived.Lib.Hide
import Derived.Deep.QuietTactic
import Derived.BigQuiet
import Derived.Deep.OwnRows
import Derived.Deep.MidRow
import Derived.IntWalk
set_option linter.unusedVariables false
namespace Go.Proofs.Ytcnfilbmmlolmaa
section
open Go.RowKit Go.WideShapes Go.ChangeShapes

/-- A slice value that reads as the cells xs ('size' cells an element, n elements), in blocks below B. An empty slice's address is of no account. -/
def Sl (w : World) (B size : Nat) (v : Value) (n : Nat) (xs : List Value) : Prop :=
  xs.length = n * size ∧ ∃ A cap, v = .slice A n cap ∧ n ≤ cap ∧ cap ≤ maxLen ∧
    (0 < n → ∃ b off, A = some ⟨b, off, none⟩ ∧ b < B ∧ ∀ j, j < n * size → w.cell? ⟨b, off + j, none⟩ = xs[j]?)

section
variable {w w' : World} {B B' size n : Nat} {v : Value} {xs : List Value}

theorem Sl.len (h : Sl w B size v n xs) : xs.length = n * size := h.1
theorem Sl.form (h : Sl w B size v n xs) : ∃ A cap, v = .slice A n cap ∧ n ≤ cap ∧ cap ≤ maxLen := by
  obtain ⟨_, A, cap, hv, h1, h2, _⟩ := h
  exact ⟨A, cap, hv, h1, h2⟩
theorem Sl.at_ (h : Sl w B size v n xs) (hn : 0 < n) : ∃ b off cap, v = .slice (some ⟨b, off, none⟩) n cap ∧ n ≤ cap ∧ cap ≤ maxLen ∧ b < B ∧ ∀ j, j < n * size → w.cell? ⟨b, off + j, none⟩ = xs[j]? := by
  obtain ⟨_, A, cap, hv, h1, h2, h3⟩ := h
  obtain ⟨b, off, rfl, hb, hc⟩ := h3 hn
  exact ⟨b, off, cap, hv, h1, h2, hb, hc⟩
theorem Sl.keep (h : Sl w B size v n xs) (hk : ∀ p : Addr, p.block < B → w'.cell? p = w.cell? p) : Sl w' B size v n xs := by
  obtain ⟨h0, A, cap, hv, h1, h2, h3⟩ := h
  refine ⟨h0, A, cap, hv, h1, h2, fun hn => ?_⟩
  obtain ⟨b, off, hA, hb, hc⟩ := h3 hn
  exact ⟨b, off, hA, hb, fun j hj => (hk _ hb).trans (hc j hj)⟩
theorem Sl.mono (h : Sl w B size v n xs) (hB : B ≤ B') : Sl w B' size v n xs := by
  obtain ⟨h0, A, cap, hv, h1, h2, h3⟩ := h
  refine ⟨h0, A, cap, hv, h1, h2, fun hn => ?_⟩
  obtain ⟨b, off, hA, hb, hc⟩ := h3 hn
  exact ⟨b, off, hA, Nat.lt_of_lt_of_le hb hB, hc⟩
theorem Sl.below (h : Sl w B size v n xs) (hb : Below B w w') : Sl w' B size v n xs := h.keep fun _ hp => hb.cell hp
theorem Sl.below' (h : Sl w B size v n xs) (hb : Below B' w w') (hB : B ≤ B') : Sl w' B size v n xs := h.keep fun _ hp => hb.cell (Nat.lt_of_lt_of_le hp hB)
theorem Sl.alloc (h : Sl w B size v n xs) (hB : B ≤ w.heap.size) (o : Obj) : Sl (w.alloc o) B size v n xs := h.below ((Below.refl _ _).alloc hB o)
theorem Sl.drew (h : Sl w B size v n xs) : Sl w.drew B size v n xs := h
theorem Sl.drewN (h : Sl w B size v n xs) (k : Nat) : Sl (w.drewN k) B size v n xs := h
theorem Sl.nil (w : World) (B size : Nat) : Sl w B size (.slice none 0 0) 0 [] := ⟨by simp, none, 0, rfl, Nat.le_refl _, by simp [maxLen], fun h => absurd h (by omega)⟩
theorem Sl.of_own {e : TypeId} {base : Nat} (h : w.ownsRow base e size v n xs) : Sl w w.heap.size size v n xs := by
  refine ⟨h.1, ?_⟩
  rcases h.2 with ⟨rfl, rfl⟩ | ⟨g, cap, cur, rfl, hb, hg, hnc, hcm, hcs, htake⟩
  · exact ⟨none, 0, rfl, Nat.le_refl _, by simp [maxLen], fun h => absurd h (by omega)⟩
  · refine ⟨_, cap, rfl, hnc, hcm, fun hn => ⟨g, 0, rfl, (Array.getElem?_eq_some_iff.1 hg).1, fun j hj => ?_⟩⟩
    have := h.cellAt j hj
    simpa using this

/-- An owned row stays owned where nothing below the heap's size has turned. -/
theorem own_below {e : TypeId} {base : Nat} (h : w.ownsRow base e size v n xs) (hb : Below w.heap.size w w') : w'.ownsRow base e size v n xs :=
  h.kept ⟨hb.os, hb.tape, hb.output, hb.size, fun k hk _ => hb.block k hk⟩ (row := none) (by cases v.ownBlock <;> simp)
theorem own_base {e : TypeId} {base base' : Nat} (h : w.ownsRow base e size v n xs) (hb : base' ≤ base) : w.ownsRow base' e size v n xs := by
  refine ⟨h.1, ?_⟩
  rcases h.2 with hn | ⟨g, cap, cur, hv, hg, r⟩
  · exact .inl hn
  · exact .inr ⟨g, cap, cur, hv, Nat.le_trans hb hg, r⟩
theorem own_full {g : Nat} {cs : Array Value} {e : TypeId} (hg : w.heap[g]? = some (.cells cs e (0, 0))) (hB : B ≤ g) (hs : cs.size = n) (hm : n ≤ maxLen) (hx : cs.toList = xs) : w.ownsRow B e 1 (.slice (some ⟨g, 0, none⟩) n n) n xs := by
  subst hs; subst hx
  exact ⟨by simp, .inr ⟨g, cs.size, cs, rfl, hB, hg, Nat.le_refl _, hm, by simp, by simp [List.take_of_length_le]⟩⟩
theorem own_empty {e : TypeId} (h : B ≤ w.heap.size) : (w.alloc (.cells #[] e)).ownsRow B e 1 (.slice (some ⟨w.heap.size, 0, none⟩) 0 0) 0 [] :=
  own_full (heap_alloc_new w _) h rfl (by simp [maxLen]) rfl
theorem own_empty_at {e : TypeId} {g : Nat} (hg : w.heap.size = g) (h : B ≤ g) : (w.alloc (.cells #[] e)).ownsRow B e 1 (.slice (some ⟨g, 0, none⟩) 0 0) 0 [] := by
  subst hg
  exact own_empty h
theorem own_lit_at {e : TypeId} {cs : Array Value} {n g : Nat} (hg : w.heap.size = g) (h : B ≤ g) (hn : cs.size = n) (hm : n ≤ maxLen) : (w.alloc (.cells cs e)).ownsRow B e 1 (.slice (some ⟨g, 0, none⟩) n n) n cs.toList := by
  subst hg
  exact own_full (heap_alloc_new w _) h hn hm rfl
theorem own_lit {e : TypeId} {cs : Array Value} {n : Nat} (h : B ≤ w.heap.size) (hn : cs.size = n) (hm : n ≤ maxLen) : (w.alloc (.cells cs e)).ownsRow B e 1 (.slice (some ⟨w.heap.size, 0, none⟩) n n) n cs.toList :=
  own_full (heap_alloc_new w _) h hn hm rfl
theorem below_grown_base {e : TypeId} {base : Nat} (h : w.ownsRow base e size v n xs) (hb : base ≤ w.heap.size) (hg : w.grownBy w' v.ownBlock) : Below base w w' :=
  (Below.refl _ _).grown hg hb fun k hk => (h.lt k hk).1
end

/-- A block that isn't the row appended to is as it was. -/
theorem block_grown {W W' : World} {v : Value} {g : Nat} {o : Obj} (h1 : W.heap[g]? = some o) (h3 : v.ownBlock ≠ some g) (h4 : W.grownBy W' v.ownBlock) : W'.heap[g]? = some o :=
  (h4.block g (Array.getElem?_eq_some_iff.1 h1).1 (Ne.symm h3)).trans h1
theorem block_alloc {W : World} {g : Nat} {o : Obj} (h1 : W.heap[g]? = some o) (o' : Obj) : (W.alloc o').heap[g]? = some o :=
  (Below.heap_alloc W o' g (Array.getElem?_eq_some_iff.1 h1).1).trans h1
theorem block_below {W W' : World} {g : Nat} {o : Obj} (h1 : W.heap[g]? = some o) (h : Below W.heap.size W W') : W'.heap[g]? = some o :=
  (h.block g (Array.getElem?_eq_some_iff.1 h1).1).trans h1
theorem ownBlock_apart {v v' : Value} {g n : Nat} (h : v'.ownBlock = v.ownBlock ∨ v'.ownBlock = some n) (h1 : v.ownBlock ≠ some g) (h2 : g < n) : v'.ownBlock ≠ some g := by
  rcases h with e | e <;> rw [e]
  · exact h1
  · simp; omega

/-- A slice type's rows of the table, in one word. -/
def ST (P : Program) (t e : TypeId) (z : Value) (size bytes : Nat) : Prop :=
  ∃ i, P.underlying t = some (.slice e) ∧ P.info? e = some i ∧ i.zero = some z ∧ i.size = size ∧ i.bytes = bytes ∧ z.cells.size = size ∧ 0 < size ∧ 0 < bytes
theorem ST.mk {P : Program} {t e : TypeId} {z : Value} {size bytes : Nat} (h : P.underlying t = some (.slice e)) (hi : (P.info? e).map (fun i => (i.zero, i.size, i.bytes)) = some (some z, size, bytes)) (hz : z.cells.size = size) (hs : 0 < size) (hb : 0 < bytes) : ST P t e z size bytes := by
  obtain ⟨i, h1, h2, h3, h4⟩ := info_parts hi
  exact ⟨i, h, h1, h2, h3, h4, hz, hs, hb⟩

/-- A row that was just laid, whole. -/
theorem Sl.lit (w : World) (cs : Array Value) (e : TypeId) (n : Nat) (hs : cs.size = n) (hm : n ≤ maxLen) : Sl (w.alloc (.cells cs e)) (w.heap.size + 1) 1 (.slice (some ⟨w.heap.size, 0, none⟩) n n) n cs.toList := by
  have := Sl.of_own (own_full (w := w.alloc (.cells cs e)) (B := w.heap.size) (heap_alloc_new w (.cells cs e)) (Nat.le_refl _) hs hm rfl)
  simpa using this

theorem Sl.lit_at {w : World} {cs : Array Value} {e : TypeId} {n g : Nat} (hg : w.heap.size = g) (hs : cs.size = n) (hm : n ≤ maxLen) : Sl (w.alloc (.cells cs e)) (g + 1) 1 (.slice (some ⟨g, 0, none⟩) n n) n cs.toList := by
  subst hg
  exact Sl.lit w cs e n hs hm

section
variable {P : Program} (w : World)

theorem run_app {t ty e : TypeId} {z : Value} {size bytes : Nat} (hT : ST P t e z size bytes) (base : Nat)
    (v : Value) (n : Nat) (xs : List Value) (hown : w.ownsRow base e size v n xs) (B : Nat) (u : Value) (m : Nat) (news : List Value) (hu : Sl w B size u m news) (h1 : ∀ u ∈ news, u.oneCell' = true)
    (hb : (n + m) * bytes ≤ 140737488355328) (hbase : base ≤ w.heap.size) :
    ∃ v' w', (Builtin.append_ #[t, t] ty #[v, u]).run P w = .ok v' w' ∧ w'.ownsRow base e size v' (n + m) (xs ++ news) ∧ w.grownBy w' v.ownBlock ∧
      (v'.ownBlock = v.ownBlock ∨ v'.ownBlock = some w.heap.size) := by
  obtain ⟨i, ht, hi, hz, hsz, hby, hzs, hs0, hb0⟩ := hT
  have hmx : n + m ≤ maxLen := by
    have : n + m ≤ (n + m) * bytes := Nat.le_mul_of_pos_right _ hb0
    simp only [maxLen]; omega
  obtain ⟨hl, A, cap, rfl, hm, hc, hA⟩ := hu
  rcases Nat.eq_zero_or_pos m with h0 | h0
  · subst h0
    have hn : news = [] := List.eq_nil_of_length_eq_zero (by simpa using hl)
    subst hn
    rcases A with _ | a
    · refine ⟨v, w, ?_, by simpa using hown, World.grownBy.refl w _, .inl rfl⟩
      rcases hown.2 with ⟨rfl, rfl⟩ | ⟨g, cap', cur, rfl, _, _, hnc, _⟩
      · simp [Builtin.append_, run_underlying ht, sizeOf, typeInfo, hi, Builtin.lenOf, Builtin.firstCells]
      · simp [Builtin.append_, run_underlying ht, sizeOf, typeInfo, hi, Builtin.lenOf, Builtin.firstCells, hnc, storeCells]
    · obtain ⟨v', w', hr, h2, h3, _, h5⟩ := run_append_own_at (P := P) w base t ty e i z size bytes ht hi hz hsz hby hzs hs0 v n xs hown a 0 cap [] (by simp) (by simp) (by simp) hmx hb hbase
      exact ⟨v', w', hr, h2, h3, h5⟩
  · obtain ⟨b, off, rfl, _, hcell⟩ := hA h0
    have hcells : ∀ j u, news[j]? = some u → w.cell? ((⟨b, off, none⟩ : Addr).add j) = some u := by
      intro j u hu
      have hj : j < m * size := by rw [← hl]; exact (List.getElem?_eq_some_iff.1 hu).1
      have := hcell j hj
      rw [hu] at this
      have hadd : (⟨b, off, none⟩ : Addr).add j = ⟨b, off + j, none⟩ := by unfold Addr.add; split <;> simp_all
      rw [hadd]; exact this
    obtain ⟨v', w', hr, h2, h3, _, h5⟩ := run_append_own_at (P := P) w base t ty e i z size bytes ht hi hz hsz hby hzs hs0 v n xs hown ⟨b, off, none⟩ m cap news hl hcells h1 hmx hb hbase
    exact ⟨v', w', hr, h2, h3, h5⟩

/-- 'b[:k]' of any slice: the same address, nil or not. -/
theorem run_cutTo {t e : TypeId} {z : Value} {size bytes : Nat} (hT : ST P t e z size bytes) (A : Option Addr) (n cap k : Nat) (hk : k ≤ cap) :
    (Instr.slice t (.slice A n cap) none (some (.int .i64 (k : Int))) none).run P w = .ok (.slice A k cap) w := by
  obtain ⟨i, ht, hi, hz, hsz, hby, hzs, hs0, hb0⟩ := hT
  have he : P.elem t = e := by simp [Program.elem, ht]
  have hs : (sizeOf (P.elem t)).run P w = .ok size w := by rw [he]; simp [sizeOf, typeInfo, hi, hsz]
  rw [run_slice_h w t A n cap (by rw [he]; exact ht) .i64 (k : Int) (by omega) (by omega), hs]
  simp only [Result.andThen, sliced, Int.toNat_natCast, Nat.zero_mul, Nat.sub_zero]
  congr 2
  cases A with
  | none => simp
  | some a =>
    have : a.add 0 = a := by simp [Addr.add]
    split
    · rfl
    · simp [this]
theorem Sl.cutTo {w : World} {B size n k : Nat} {A : Option Addr} {cap : Nat} {xs : List Value} (h : Sl w B size (.slice A n cap) n xs) (hk : k ≤ n) : Sl w B size (.slice A k cap) k (xs.take (k * size)) := by
  obtain ⟨hl, A', cap', hv, h1, h2, h3⟩ := h
  injection hv with e1 _ e2
  subst e1 e2
  have hks : k * size ≤ n * size := Nat.mul_le_mul_right _ hk
  refine ⟨by rw [List.length_take, hl]; omega, A, cap, rfl, by omega, h2, fun h0 => ?_⟩
  obtain ⟨b, off, hA, hB, hc⟩ := h3 (by omega)
  refine ⟨b, off, hA, hB, fun j hj => ?_⟩
  rw [hc j (by omega), List.getElem?_take, if_pos hj]

/-- 'b[k:]' of a slice that isn't nil. -/
theorem Sl.dropAt {w : World} {B n k b off cap : Nat} {xs : List Value} (h : Sl w B 1 (.slice (some ⟨b, off, none⟩) n cap) n xs) (hk : k ≤ n) : Sl w B 1 (.slice (some ⟨b, off + k, none⟩) (n - k) (cap - k)) (n - k) (xs.drop k) := by
  obtain ⟨hl, A', cap', hv, h1, h2, h3⟩ := h
  injection hv with e1 _ e2
  subst e1 e2
  refine ⟨by rw [List.length_drop, hl]; omega, _, cap - k, rfl, by omega, by omega, fun h0 => ?_⟩
  obtain ⟨b', off', hA, hB, hc⟩ := h3 (by omega)
  injection hA with hA
  injection hA with e3 e4
  subst e3 e4
  refine ⟨b, off + k, rfl, hB, fun j hj => ?_⟩
  rw [Nat.add_assoc, hc (k + j) (by omega), List.getElem?_drop]
theorem Sl.length {w : World} {B n : Nat} {v : Value} {l : List Nat} (h : Sl w B 1 v n (l.map fun (x : Nat) => .int .u8 (x : Int))) : l.length = n := by
  have := h.1
  simpa using this

/-- 'append(v, u...)', v a row of the call's own, u any slice: at an operation. -/
theorem wp_app {o : Oper} {a : Act} {K : Act → World → Prop} {Q : Exit → Act → World → Prop} {t e : TypeId} {z : Value} {size bytes : Nat} (hT : ST P t e z size bytes) (s x : Operand)
    (ho : o.op = .call { callee := .builtin .append, args := #[s, x], argTypes := #[t, t] }) (base : Nat)
    (v : Value) (n : Nat) (xs : List Value) (hs : a.eval s = v) (hown : w.ownsRow base e size v n xs) (B : Nat) (u : Value) (m : Nat) (news : List Value) (hx : a.eval x = u) (hu : Sl w B size u m news) (h1 : ∀ u ∈ news, u.oneCell' = true)
    (hb : (n + m) * bytes ≤ 140737488355328) (hbase : base ≤ w.heap.size)
    (h : ∀ v' w', w'.ownsRow base e size v' (n + m) (xs ++ news) → w.grownBy w' v.ownBlock → (v'.ownBlock = v.ownBlock ∨ v'.ownBlock = some w.heap.size) → Below base w w' → K (a.put o.dst v') w') : o.wp P a w K Q := by
  obtain ⟨v', w', hr, h2, h3, h4⟩ := run_app (P := P) w hT (ty := o.type) base v n xs hown B u m news hu h1 hb hbase
  unfold Oper.wp execOp
  simp only [ho, resolve, invoke, builtin, Sem.run_bind, Sem.run_pure, Result.andThen_ok, List.map_toArray, List.map_cons, List.map_nil, hs, hx, hr]
  exact h v' w' h2 h3 h4 (below_grown_base hown hbase h3)

/-- The same at a plain region's list. -/
theorem wpList_app {ops : Array Oper} {rest : List Oper} {o : Oper} {a : Act} {Q : Exit → Act → World → Prop} (hgd : o.guard = none) {t e : TypeId} {z : Value} {size bytes : Nat} (hT : ST P t e z size bytes) (s x : Operand)
    (ho : o.op = .call { callee := .builtin .append, args := #[s, x], argTypes := #[t, t] }) (base : Nat)
    (v : Value) (n : Nat) (xs : List Value) (hs : a.eval s = v) (hown : w.ownsRow base e size v n xs) (B : Nat) (u : Value) (m : Nat) (news : List Value) (hx : a.eval x = u) (hu : Sl w B size u m news) (h1 : ∀ u ∈ news, u.oneCell' = true)
    (hb : (n + m) * bytes ≤ 140737488355328) (hbase : base ≤ w.heap.size)
    (h : ∀ v' w', w'.ownsRow base e size v' (n + m) (xs ++ news) → w.grownBy w' v.ownBlock → (v'.ownBlock = v.ownBlock ∨ v'.ownBlock = some w.heap.size) → Below base w w' → wpList P ops Q rest (a.put o.dst v') w') : wpList P ops Q (o :: rest) a w :=
  wpList_plain hgd fun _ hK => wp_app w hT s x ho base v n xs hs hown B u m news hx hu h1 hb hbase fun v' w' h2 h3 h4 h5 => hK _ _ (h v' w' h2 h3 h4 h5)

/-- The same, the new slice written out. -/
theorem wpList_apv {ops : Array Oper} {rest : List Oper} {o : Oper} {a : Act} {Q : Exit → Act → World → Prop} (hgd : o.guard = none) {t e : TypeId} {z : Value} {size bytes : Nat} (hT : ST P t e z size bytes) (s x : Operand)
    (ho : o.op = .call { callee := .builtin .append, args := #[s, x], argTypes := #[t, t] }) (base : Nat)
    (v : Value) (n : Nat) (xs : List Value) (hs : a.eval s = v) (hown : w.ownsRow base e size v n xs) (B : Nat) (u : Value) (m : Nat) (news : List Value) (hx : a.eval x = u) (hu : Sl w B size u m news) (h1 : ∀ u ∈ news, u.oneCell' = true)
    (hb : (n + m) * bytes ≤ 140737488355328) (hbase : base ≤ w.heap.size)
    (h : ∀ A c w', w'.ownsRow base e size (.slice A (n + m) c) (n + m) (xs ++ news) → w.grownBy w' v.ownBlock → ((Value.slice A (n + m) c).ownBlock = v.ownBlock ∨ (Value.slice A (n + m) c).ownBlock = some w.heap.size) → Below base w w' → wpList P ops Q rest (a.put o.dst (.slice A (n + m) c)) w') : wpList P ops Q (o :: rest) a w :=
  wpList_app w hgd hT s x ho base v n xs hs hown B u m news hx hu h1 hb hbase fun v' w' h2 h3 h4 h5 => by
    obtain ⟨A, c, rfl, _, _⟩ := (Sl.of_own h2).form
    exact h A c w' h2 h3 h4 h5

/-- The same at a step of a region that draws its order. -/
theorem step_app {ops : Array Oper} {o : Oper} {a : Act} {K : Act → World → Prop} {Q : Exit → Act → World → Prop} {E : Prop} (hgd : o.guard = none) {t e : TypeId} {z : Value} {size bytes : Nat} (hT : ST P t e z size bytes) (s x : Operand)
    (ho : o.op = .call { callee := .builtin .append, args := #[s, x], argTypes := #[t, t] }) (base : Nat)
    (v : Value) (n : Nat) (xs : List Value) (hs : a.eval s = v) (hown : w.ownsRow base e size v n xs) (B : Nat) (u : Value) (m : Nat) (news : List Value) (hx : a.eval x = u) (hu : Sl w B size u m news) (h1 : ∀ u ∈ news, u.oneCell' = true)
    (hb : (n + m) * bytes ≤ 140737488355328) (hbase : base ≤ w.heap.size)
    (h : ∀ v' w', w'.ownsRow base e size v' (n + m) (xs ++ news) → w.grownBy w' v.ownBlock → (v'.ownBlock = v.ownBlock ∨ v'.ownBlock = some w.heap.size) → Below base w w' → K (a.put o.dst v') w') :
    if Region.wanted o (yielded ops a.tmps) = true then Oper.wp P o a w K Q else E := by
  have hw : Region.wanted o (yielded ops a.tmps) = true := by simp [Region.wanted, hgd]
  rw [if_pos hw]
  exact wp_app w hT s x ho base v n xs hs hown B u m news hx hu h1 hb hbase h
end

/-- 'int(uint64(a) % N)': some number below N. -/
theorem mod_u64 (a : Int) (N : Nat) (h0 : 0 < N) (h1 : N ≤ 4611686018427387904) : ∃ k : Nat, k < N ∧ wrap64 ((IntKind.u64.wrap a).tmod (N : Int)) = (k : Int) := by
  rw [IntKind.wrap_u64]
  have hp : 0 ≤ a % 18446744073709551616 := Int.emod_nonneg _ (by omega)
  obtain ⟨b, hb⟩ := Int.eq_ofNat_of_zero_le hp
  rw [hb, ← Int.ofNat_tmod]
  have hlt : b % N < N := Nat.mod_lt _ h0
  refine ⟨b % N, hlt, ?_⟩
  unfold wrap64
  omega

/-- Bytes as values. -/
def bv (l : List Nat) : List Value := l.map fun (n : Nat) => .int .u8 (n : Int)
theorem bv_length (l : List Nat) : (bv l).length = l.length := by simp [bv]
theorem bv_one (l : List Nat) : ∀ u ∈ bv l, u.oneCell' = true := by
  intro u hu
  obtain ⟨n, _, rfl⟩ := List.mem_map.1 hu
  rfl
theorem bv_at (l : List Nat) (j : Nat) (h : j < l.length) : (bv l)[j]? = some (.int .u8 (l[j] : Int)) := by
  simp [bv, List.getElem?_map, List.getElem?_eq_getElem h]
theorem bv_append (a b : List Nat) : bv (a ++ b) = bv a ++ bv b := by simp [bv]

/-- What was read of the arguments reads so behind a call that turned nothing that was there. -/
theorem trodAll_below {H : Type} {enc : TypeId × Value → H} {P : Program} (hl : laidOutB P = true) {W W' : World} (hb : Below W.heap.size W W') :
    ∀ (ts : List TypeId) (vs : List Value) (ds : List (DataW H)) (ps : List MemPlace), (ts.all fun t => P.readableRec t && decide (t < P.types.size)) = true → DataW.TrodAll enc P W 0 (fun _ => true) true ts vs ds ps → (∀ x ∈ ps, x.block < W.heap.size) →
      DataW.TrodAll enc P W' 0 (fun b => decide (b < W.heap.size)) true ts vs ds ps
  | [], vs, ds, ps, _, h, _ => by
    obtain ⟨rfl, rfl, rfl⟩ := trodAll_nil h
    exact trodAll_mk0
  | t :: ts, vs, ds, ps, ha, h, hlt => by
    obtain ⟨v, vs', d, ds', p, q, rfl, rfl, rfl, h0, hr⟩ := trodAll_cons h
    simp only [List.all_cons, Bool.and_eq_true, decide_eq_true_eq] at ha
    exact trodAll_cons_mk (Below.trod hl ha.1.1 ha.1.2 h0 hb fun x hx => hlt x (by simp [hx])) (trodAll_below hl hb ts vs' ds' q ha.2 hr fun x hx => hlt x (by simp [hx]))

/-- A law's call that answered true and turned nothing that was there: the row's last step. -/
theorem close_true {H : Type} {enc : TypeId × Value → H} {P : Program} {f : Func} {s : ChangeSpec} {b : TypeId} {W W' : World} {args : Array Value} {ds gs : List (DataW H)} {before : List MemPlace}
    (hl : laidOutB P = true) (hb : P.underlying b = some .bool) (hr : f.resultTypes = #[b]) (hp : (f.params.toList.all fun t => P.readableRec t && decide (t < P.types.size)) = true)
    (hvars : s.vars = []) (hfn : s.fn H ds = { results := [.lit (.bool true)], args := ds })
    (hW : DataW.Whole enc P f.params.toList s.vars false W args.toList ds gs before) (hbel : Below W.heap.size W W') :
    ∃ v, Ending.returned (.bool true) = .returned v ∧ s.post enc P f false true false false W args v W' := by
  have hlt : ∀ p ∈ before, p.block < W.heap.size := fun p hp => hW.lt p hp
  have hW' := hW
  obtain ⟨p, q, hA, hV, rfl, hfz, hnd⟩ := hW
  rw [hvars] at hV
  obtain ⟨rfl, rfl⟩ := trodVars_none hV
  refine ⟨_, rfl, ds, [], p ++ [], [], p, [], hW', ?_, ?_, ?_, hbel.frame _, fun h => by cases h⟩
  · rw [List.append_nil, hfn, hr]
    exact trodAll_mk1 (shut_bool hb _)
  · rw [List.append_nil, hfn]
    exact trodAll_below hl hbel _ _ _ _ hp hA fun x hx => hlt x (by simp [hx])
  · rw [List.append_nil, hfn, hvars]
    rfl

/-- A list of ints that fit a byte, as natural numbers. -/
theorem nats_of_u8 : ∀ zs : List Int, (∀ n ∈ zs, (Lit.int .u8 n).wf = true) → ∃ l : List Nat, zs = l.map (fun n : Nat => (n : Int)) ∧ ∀ x ∈ l, x < 256
  | [], _ => ⟨[], rfl, by simp⟩
  | z :: zs, h => by
    obtain ⟨l, rfl, hl⟩ := nats_of_u8 zs fun n hn => h n (by simp [hn])
    have := Go.bounds_u8 (h z (by simp))
    refine ⟨z.toNat :: l, ?_, ?_⟩
    · simp; omega
    · intro x hx
      rcases List.mem_cons.1 hx with rfl | hx
      · omega
      · exact hl x hx

section
variable {H : Type} {enc : TypeId × Value → H} {P : Program} {w : World} {held : Bool}
/-- A byte slice that came in. -/
theorem open_bytes {r : Reach} {b0 : Nat} {t e : TypeId} {v : Value} {d : DataW H} {ps : List MemPlace} (ht : P.underlying t = some (.slice e)) (he : P.underlying e = some (.int .u8)) (hc : P.cellsOf e = 1)
    (hval : Value.okWide P w r b0 t v) (hd : DataW.Trod enc P w 0 (fun _ => true) held t v d ps) :
    ∃ l : List Nat, Sl w w.heap.size 1 v l.length (bv l) ∧ ∀ x ∈ l, x < 256 := by
  obtain ⟨a, len, cap, rfl⟩ := okWide_slice ht hval
  obtain ⟨fuel, hf⟩ := hd
  rcases open_ints ht he hc hf with ⟨hcs, _⟩ | ⟨x, l, c, zs, hcs, _, hl, hm, hz, _, hcell, hwz⟩
  · simp [Value.cells] at hcs
    obtain ⟨rfl, rfl, rfl⟩ := hcs
    exact ⟨[], Sl.nil _ _ _, by simp⟩
  · simp [Value.cells] at hcs
    obtain ⟨rfl, rfl, rfl⟩ := hcs
    simp only [if_true] at hz
    obtain ⟨ns, rfl, hns⟩ := nats_of_u8 zs hwz
    simp only [List.length_map] at hz hcell
    have hlen : (ns.take len).length = len := by rw [List.length_take]; omega
    refine ⟨ns.take len, ?_, fun x hx => hns x (List.mem_of_mem_take hx)⟩
    refine ⟨by simp [bv_length], some x, cap, by rw [hlen], by omega, hm, fun hn => ?_⟩
    obtain ⟨b, off, spot⟩ := x
    have h0 := hcell 0 (by omega)
    have hspot : spot = none := by simpa [Addr.add] using World.cell?_spot h0
    subst hspot
    refine ⟨b, off, rfl, World.block_lt_of_cell? w _ (by simpa [Addr.add] using h0), fun j hj => ?_⟩
    rw [hlen, Nat.mul_one] at hj
    have hj2 : j < ns.length := by omega
    have h1 := hcell j hj2
    have hadd : (⟨b, off, none⟩ : Addr).add j = ⟨b, off + j, none⟩ := by unfold Addr.add; split <;> simp_all
    rw [hadd] at h1
    rw [h1, bv_at _ _ (by rw [hlen]; exact hj)]
    simp [List.getD_eq_getElem?_getD, List.getElem?_map, List.getElem?_eq_getElem hj2]
theorem open_u64 {r : Reach} {b0 : Nat} {t : TypeId} {v : Value} {d : DataW H} {ps : List MemPlace} (ht : P.underlying t = some (.int .u64)) (hval : Value.okWide P w r b0 t v) (hd : DataW.Trod enc P w 0 (fun _ => true) held t v d ps) :
    ∃ n : Nat, v = .int .u64 (n : Int) ∧ n < 18446744073709551616 := by
  obtain ⟨n, rfl, _, _, hw⟩ := open_int ht hval hd
  have := Go.bounds_u64 hw
  exact ⟨n.toNat, by congr 1; omega, by omega⟩
theorem open_u16 {r : Reach} {b0 : Nat} {t : TypeId} {v : Value} {d : DataW H} {ps : List MemPlace} (ht : P.underlying t = some (.int .u16)) (hval : Value.okWide P w r b0 t v) (hd : DataW.Trod enc P w 0 (fun _ => true) held t v d ps) :
    ∃ n : Nat, v = .int .u16 (n : Int) ∧ n < 65536 := by
  obtain ⟨n, rfl, _, _, hw⟩ := open_int ht hval hd
  have := Go.bounds_u16 hw
  exact ⟨n.toNat, by congr 1; omega, by omega⟩
theorem open_u8 {r : Reach} {b0 : Nat} {t : TypeId} {v : Value} {d : DataW H} {ps : List MemPlace} (ht : P.underlying t = some (.int .u8)) (hval : Value.okWide P w r b0 t v) (hd : DataW.Trod enc P w 0 (fun _ => true) held t v d ps) :
    ∃ n : Nat, v = .int .u8 (n : Int) ∧ n < 256 := by
  obtain ⟨n, rfl, _, _, hw⟩ := open_int ht hval hd
  have := Go.bounds_u8 hw
  exact ⟨n.toNat, by congr 1; omega, by omega⟩
theorem open_i64 {r : Reach} {b0 : Nat} {t : TypeId} {v : Value} {d : DataW H} {ps : List MemPlace} (ht : P.underlying t = some (.int .i64)) (hval : Value.okWide P w r b0 t v) (hd : DataW.Trod enc P w 0 (fun _ => true) held t v d ps) :
    ∃ n : Int, v = .int .i64 n ∧ -9223372036854775808 ≤ n ∧ n ≤ 9223372036854775807 := by
  obtain ⟨n, rfl, _, _, hw⟩ := open_int ht hval hd
  exact ⟨n, rfl, Go.bounds_i64 hw⟩
end
end
section
open Go.ChangeShapes Go.WideShapes Go.RowKit Go.Deep
section
variable {H : Type} {enc : TypeId × Value → H} {P : Program} {w : World} {base : Nat} {spare : Nat → Bool} {held : Bool}

/-- What a field's cell holds, and how it reads. -/
def Holds1 (enc : TypeId × Value → H) (P : Program) (w : World) (base : Nat) (spare : Nat → Bool) (held : Bool) (t : TypeId) (u : Value) : Prop :=
  ∃ (n : Nat) (y : DataW H × List MemPlace), DataW.trod enc P w base spare held n t [u] = some y
theorem Holds1.int {k : IntKind} {t : TypeId} {u : Value} (h : Holds1 enc P w base spare held t u) (ht : P.underlying t = some (.int k)) : ∃ n, u = .int k n ∧ (Lit.int k n).wf = true := by
  obtain ⟨m, y, hy⟩ := h
  obtain ⟨n, h1, _, h3⟩ := DataW.trod_int ht hy
  exact ⟨n, by simpa using h1, h3⟩
theorem Holds1.bool {t : TypeId} {u : Value} (h : Holds1 enc P w base spare held t u) (ht : P.underlying t = some .bool) : ∃ b, u = .bool b := by
  obtain ⟨m, y, hy⟩ := h
  obtain ⟨n, h1, _⟩ := DataW.trod_bool ht hy
  exact ⟨n, by simpa using h1⟩
theorem Holds1.i64 {t : TypeId} {u : Value} (h : Holds1 enc P w base spare held t u) (ht : P.underlying t = some (.int .i64)) : ∃ n : Int, u = .int .i64 n ∧ -9223372036854775808 ≤ n ∧ n ≤ 9223372036854775807 := by
  obtain ⟨n, rfl, hw⟩ := h.int ht
  exact ⟨n, rfl, Go.bounds_i64 hw⟩
theorem Holds1.u64 {t : TypeId} {u : Value} (h : Holds1 enc P w base spare held t u) (ht : P.underlying t = some (.int .u64)) : ∃ n : Nat, u = .int .u64 (n : Int) ∧ n < 18446744073709551616 := by
  obtain ⟨n, rfl, hw⟩ := h.int ht
  have := Go.bounds_u64 hw
  exact ⟨n.toNat, by congr 1; omega, by omega⟩
theorem Holds1.u32 {t : TypeId} {u : Value} (h : Holds1 enc P w base spare held t u) (ht : P.underlying t = some (.int .u32)) : ∃ n : Nat, u = .int .u32 (n : Int) ∧ n < 4294967296 := by
  obtain ⟨n, rfl, hw⟩ := h.int ht
  have := Go.bounds_u32 hw
  exact ⟨n.toNat, by congr 1; omega, by omega⟩
theorem Holds1.u16 {t : TypeId} {u : Value} (h : Holds1 enc P w base spare held t u) (ht : P.underlying t = some (.int .u16)) : ∃ n : Nat, u = .int .u16 (n : Int) ∧ n < 65536 := by
  obtain ⟨n, rfl, hw⟩ := h.int ht
  have := Go.bounds_u16 hw
  exact ⟨n.toNat, by congr 1; omega, by omega⟩
theorem Holds1.bytes {t e : TypeId} {u : Value} (h : Holds1 enc P w 0 (fun _ => true) held t u) (ht : P.underlying t = some (.slice e)) (he : P.underlying e = some (.int .u8)) (hc : P.cellsOf e = 1) :
    ∃ l : List Nat, Sl w w.heap.size 1 u l.length (bv l) ∧ ∀ x ∈ l, x < 256 := by
  obtain ⟨fuel, y, hf⟩ := h
  rcases open_ints ht he hc hf with ⟨hcs, _⟩ | ⟨x, l, c, zs, hcs, _, hl, hm, hz, _, hcell, hwz⟩
  · obtain rfl : u = .slice none 0 0 := by simpa using hcs
    exact ⟨[], Sl.nil _ _ _, by simp⟩
  · obtain rfl : u = .slice (some x) l c := by simpa using hcs
    simp only [if_true] at hz
    obtain ⟨ns, rfl, hns⟩ := nats_of_u8 zs hwz
    simp only [List.length_map] at hz hcell
    have hlen : (ns.take l).length = l := by rw [List.length_take]; omega
    refine ⟨ns.take l, ?_, fun x hx => hns x (List.mem_of_mem_take hx)⟩
    refine ⟨by simp [bv_length], some x, c, by rw [hlen], by omega, hm, fun hn => ?_⟩
    obtain ⟨b, off, spot⟩ := x
    have h0 := hcell 0 (by omega)
    have hspot : spot = none := by simpa [Addr.add] using World.cell?_spot h0
    subst hspot
    refine ⟨b, off, rfl, World.block_lt_of_cell? w _ (by simpa [Addr.add] using h0), fun j hj => ?_⟩
    rw [hlen, Nat.mul_one] at hj
    have hj2 : j < ns.length := by omega
    have h1 := hcell j hj2
    have hadd : (⟨b, off, none⟩ : Addr).add j = ⟨b, off + j, none⟩ := by unfold Addr.add; split <;> simp_all
    rw [hadd] at h1
    rw [h1, bv_at _ _ (by rw [hlen]; exact hj)]
    simp [List.getD_eq_getElem?_getD, List.getElem?_map, List.getElem?_eq_getElem hj2]

/-- The fields' cells of a struct that was read. -/
theorem fields_held {t : TypeId} {fs : Array Field} {fuel : Nat} {cs : List Value} {x : DataW H × List MemPlace} (hs : P.underlying t = some (.struct fs)) (hone : oneCellFields P fs = true) (hC : P.cellsOf t = fs.size)
    (h : DataW.trod enc P w base spare held fuel t cs = some x) : cs.length = fs.size ∧ ∀ (j : Nat) (f : Field), fs[j]? = some f → ∃ u, cs[j]? = some u ∧ Holds1 enc P w base spare held f.type u := by
  obtain ⟨xs, n, _, _, hlen, hxl, hg⟩ := DataW.trod_struct hs h
  refine ⟨hlen.trans hC, fun j f hj => ?_⟩
  obtain ⟨ho, hk⟩ := hone_of hone j f hj
  have hjl : j < fs.size := (Array.getElem?_eq_some_iff.1 hj).1
  have hjc : j < cs.length := by omega
  have h1 := hg j f hj
  rw [ho, hk] at h1
  have h2 : (cs.drop j).take 1 = [cs[j]'hjc] := by
    rw [List.drop_eq_getElem_cons hjc]; rfl
  rw [h2, List.getElem?_eq_getElem (show j < xs.length by omega)] at h1
  exact ⟨_, List.getElem?_eq_getElem hjc, n, _, h1⟩
/-- A struct by value. -/
theorem open_fields {r : Reach} {b0 : Nat} {t : TypeId} {fs : Array Field} {v : Value} {d : DataW H} {p : List MemPlace} (hs : P.underlying t = some (.struct fs)) (hone : oneCellFields P fs = true) (hC : P.cellsOf t = fs.size)
    (hv : Value.okWide P w r b0 t v) (h : DataW.Trod enc P w base spare held t v d p) :
    ∃ l : List Value, v = .agg l.toArray ∧ l.length = fs.size ∧ ∀ (j : Nat) (f : Field), fs[j]? = some f → ∃ u, l[j]? = some u ∧ Holds1 enc P w base spare held f.type u := by
  obtain ⟨cs, rfl, hsz⟩ := okWide_struct hs hv
  obtain ⟨fuel, hf⟩ := h
  obtain ⟨h1, h2⟩ := fields_held hs hone hC hf
  obtain ⟨l⟩ := cs
  exact ⟨l, rfl, by simpa [Value.cells] using h1, by simpa [Value.cells] using h2⟩
/-- A slice of structs. -/
theorem open_rows {r : Reach} {b0 : Nat} {t e : TypeId} {fs : Array Field} {v : Value} {d : DataW H} {p : List MemPlace} (ht : P.underlying t = some (.slice e)) (hs : P.underlying e = some (.struct fs)) (hone : oneCellFields P fs = true) (hC : P.cellsOf e = fs.size) (h0 : 0 < fs.size)
    (hv : Value.okWide P w r b0 t v) (h : DataW.Trod enc P w 0 (fun _ => true) held t v d p) :
    ∃ (A : Option Addr) (n cap : Nat), v = .slice A n cap ∧ n ≤ cap ∧ cap ≤ maxLen ∧ (0 < n → ∃ b off, A = some ⟨b, off, none⟩ ∧ b < w.heap.size ∧
      ∀ i, i < n → ∀ (j : Nat) (f : Field), fs[j]? = some f → ∃ u, w.cell? ⟨b, off + i * fs.size + j, none⟩ = some u ∧ Holds1 enc P w 0 (fun _ => true) held f.type u) := by
  obtain ⟨A, n, cap, rfl⟩ := okWide_slice ht hv
  obtain ⟨fuel, hf⟩ := h
  rcases open_slice ht hf with ⟨hcs, _⟩ | ⟨a, len, c, m, k, D, Pl, hcs, _, hl, hm, hmm, _, hi⟩
  · simp [Value.cells] at hcs
    obtain ⟨rfl, rfl, rfl⟩ := hcs
    exact ⟨none, 0, 0, rfl, Nat.le_refl _, by simp [maxLen], fun h => absurd h (by omega)⟩
  · simp [Value.cells] at hcs
    obtain ⟨rfl, rfl, rfl⟩ := hcs
    simp only [if_true] at hmm
    subst hmm
    refine ⟨some a, n, m, rfl, hl, hm, fun hn => ?_⟩
    have hat : ∀ i, i < m → ∀ (j : Nat) (f : Field), fs[j]? = some f → ∃ u, w.cell? (a.add (i * fs.size + j)) = some u ∧ Holds1 enc P w 0 (fun _ => true) held f.type u := by
      intro i him j f hj
      obtain ⟨cs', hc, ht'⟩ := hi i him
      rw [hC] at hc
      obtain ⟨_, hcl, hcat⟩ := World.cells?_some hc
      obtain ⟨_, h2⟩ := fields_held hs hone hC ht'
      obtain ⟨u, hu, hh⟩ := h2 j f hj
      have hjl : j < fs.size := (Array.getElem?_eq_some_iff.1 hj).1
      refine ⟨u, ?_, hh⟩
      rw [← Go.Deep.add_add, hcat j hjl, hu]
    have hf0 : fs[0]? = some fs[0] := Array.getElem?_eq_getElem h0
    obtain ⟨u0, hu0, _⟩ := hat 0 (by omega) 0 _ hf0
    obtain ⟨b, off, spot⟩ := a
    have hspot : spot = none := by simpa [Addr.add] using World.cell?_spot hu0
    subst hspot
    refine ⟨b, off, rfl, World.block_lt_of_cell? w _ (by simpa [Addr.add] using hu0), fun i hi2 j f hj => ?_⟩
    obtain ⟨u, hu, hh⟩ := hat i (by omega) j f hj
    have hadd : (⟨b, off, none⟩ : Addr).add (i * fs.size + j) = ⟨b, off + i * fs.size + j, none⟩ := by
      unfold Addr.add; split <;> simp_all [Nat.add_assoc]
    rw [hadd] at hu
    exact ⟨u, hu, hh⟩
/-- Two ints by value. -/
theorem open_ii {r : Reach} {b0 : Nat} {t : TypeId} {f0 f1 : Field} {v : Value} {d : DataW H} {p : List MemPlace} (hs : P.underlying t = some (.struct #[f0, f1])) (hone : oneCellFields P #[f0, f1] = true) (hC : P.cellsOf t = 2) (h0 : P.underlying f0.type = some (.int .i64)) (h1 : P.underlying f1.type = some (.int .i64))
    (hv : Value.okWide P w r b0 t v) (h : DataW.Trod enc P w base spare held t v d p) :
    ∃ a b : Int, v = .agg #[.int .i64 a, .int .i64 b] ∧ (-9223372036854775808 ≤ a ∧ a ≤ 9223372036854775807) ∧ (-9223372036854775808 ≤ b ∧ b ≤ 9223372036854775807) := by
  obtain ⟨l, rfl, hl, hf⟩ := open_fields hs hone hC hv h
  obtain ⟨u0, e0, g0⟩ := hf 0 f0 rfl
  obtain ⟨u1, e1, g1⟩ := hf 1 f1 rfl
  obtain ⟨a, rfl, ha⟩ := g0.i64 h0
  obtain ⟨b, rfl, hb⟩ := g1.i64 h1
  match l, hl with
  | [x, y], _ =>
    simp at e0 e1
    subst e0 e1
    exact ⟨a, b, rfl, ha, hb⟩
end
end
section
open Go.ChangeShapes Go.WideShapes Go.RowKit Go.Deep
section
variable {H : Type} {enc : TypeId × Value → H} {P : Program} {w : World} {base : Nat} {spare : Nat → Bool} {held : Bool}

/-- The types of a type's cells, one behind the other. -/
def leavesF (P : Program) (rec : TypeId → Option (List TypeId)) : List Field → Nat → Option (List TypeId)
  | [], _ => some []
  | f :: fs, off => if f.offset = off then
      match rec f.type with
      | some a => if P.cellsOf f.type = a.length then
          match leavesF P rec fs (off + a.length) with
          | some b => some (a ++ b)
          | none => none
        else none
      | none => none
    else none
def leaves (P : Program) : Nat → TypeId → Option (List TypeId)
  | 0, _ => none
  | n + 1, t => match P.underlying t with
    | some (.struct fs) => match leavesF P (leaves P n) fs.toList 0 with
      | some l => if P.cellsOf t = l.length then some l else none
      | none => none
    | _ => if P.cellsOf t = 1 then some [t] else none

theorem leavesF_held (rec : TypeId → Option (List TypeId))
    (hrec : ∀ t cs x fuel ts, rec t = some ts → cs.length = P.cellsOf t → DataW.trod enc P w base spare held fuel t cs = some x → ∀ (j : Nat) tj, ts[j]? = some tj → ∃ u, cs[j]? = some u ∧ Holds1 enc P w base spare held tj u) :
    ∀ (fs : List Field) (off : Nat) (ts : List TypeId) (cs : List Value), leavesF P rec fs off = some ts → off + ts.length ≤ cs.length →
      (∀ f ∈ fs, ∃ fuel x, DataW.trod enc P w base spare held fuel f.type ((cs.drop f.offset).take (P.cellsOf f.type)) = some x) →
      ∀ (j : Nat) tj, ts[j]? = some tj → ∃ u, cs[off + j]? = some u ∧ Holds1 enc P w base spare held tj u
  | [], off, ts, cs, h, _, _ => by
    intro j tj hj
    simp [leavesF] at h
    subst h
    simp at hj
  | f :: fs, off, ts, cs, h, hlen, hf => by
    intro j tj hj
    unfold leavesF at h
    split at h
    · rename_i ho
      split at h
      · rename_i a ha
        split at h
        · rename_i hc
          split at h
          · rename_i b hb
            injection h with h
            subst h
            rw [List.length_append] at hlen
            obtain ⟨fuel, x, hx⟩ := hf f (by simp)
            rw [ho] at hx
            have hcl : ((cs.drop off).take (P.cellsOf f.type)).length = P.cellsOf f.type := by
              rw [List.length_take, List.length_drop]; omega
            rcases Nat.lt_or_ge j a.length with h1 | h1
            · rw [List.getElem?_append_left h1] at hj
              obtain ⟨u, hu, hh⟩ := hrec f.type _ _ _ _ ha hcl hx j tj hj
              refine ⟨u, ?_, hh⟩
              rw [List.getElem?_take, if_pos (by omega), List.getElem?_drop] at hu
              exact hu
            · rw [List.getElem?_append_right h1] at hj
              obtain ⟨u, hu, hh⟩ := leavesF_held rec hrec fs (off + a.length) b cs hb (by omega) (fun g hg => hf g (by simp [hg])) (j - a.length) tj hj
              refine ⟨u, ?_, hh⟩
              rw [← hu]
              congr 1
              omega
          · cases h
        · cases h
      · cases h
    · cases h
theorem leaves_held : ∀ (n : Nat) (t : TypeId) (cs : List Value) (x : DataW H × List MemPlace) (fuel : Nat) (ts : List TypeId), leaves P n t = some ts → cs.length = P.cellsOf t → DataW.trod enc P w base spare held fuel t cs = some x →
    ∀ (j : Nat) tj, ts[j]? = some tj → ∃ u, cs[j]? = some u ∧ Holds1 enc P w base spare held tj u
  | 0, t, cs, x, fuel, ts, h, _, _ => by simp [leaves] at h
  | n + 1, t, cs, x, fuel, ts, h, hcs, hx => by
    intro j tj hj
    unfold leaves at h
    split at h
    · rename_i fs hs
      split at h
      · rename_i l hl
        split at h
        · rename_i hc
          injection h with h
          subst h
          obtain ⟨xs, m, _, _, hlen, hxl, hg⟩ := DataW.trod_struct hs hx
          have hf : ∀ f ∈ fs.toList, ∃ fuel x, DataW.trod enc P w base spare held fuel f.type ((cs.drop f.offset).take (P.cellsOf f.type)) = some x := by
            intro f hf
            obtain ⟨i, hi, rfl⟩ := List.getElem_of_mem hf
            have hi' : i < fs.size := by simpa using hi
            have := hg i fs[i] (Array.getElem?_eq_getElem hi')
            rw [List.getElem?_eq_getElem (show i < xs.length by omega)] at this
            exact ⟨m, _, by simpa using this⟩
          have := leavesF_held (leaves P n) (fun t cs x fuel ts a b c => leaves_held n t cs x fuel ts a b c) fs.toList 0 l cs hl (by omega) hf j tj hj
          simpa using this
        · cases h
      · cases h
    · split at h
      · rename_i hc
        injection h with h
        subst h
        rw [hc] at hcs
        match cs, hcs with
        | [u], _ =>
          match j, hj with
          | 0, hj =>
            simp at hj
            subst hj
            exact ⟨u, rfl, fuel, x, hx⟩
      · cases h
/-- A struct by value. -/
theorem open_flat {r : Reach} {b0 : Nat} {t : TypeId} {fs : Array Field} {ts : List TypeId} {v : Value} {d : DataW H} {p : List MemPlace} (hs : P.underlying t = some (.struct fs)) (hl : leaves P 8 t = some ts) (hn : P.cellsOf t = ts.length)
    (hv : Value.okWide P w r b0 t v) (h : DataW.Trod enc P w base spare held t v d p) :
    ∃ l : List Value, v = .agg l.toArray ∧ l.length = ts.length ∧ ∀ (j : Nat) tj, ts[j]? = some tj → ∃ u, l[j]? = some u ∧ Holds1 enc P w base spare held tj u := by
  obtain ⟨cs, rfl, hsz⟩ := okWide_struct hs hv
  obtain ⟨fuel, hf⟩ := h
  obtain ⟨_, _, _, _, hlen, _⟩ := DataW.trod_struct hs hf
  obtain ⟨l⟩ := cs
  have hll : l.length = P.cellsOf t := by simpa [Value.cells] using hlen
  have := leaves_held 8 t _ _ _ _ hl hlen hf
  exact ⟨l, rfl, by omega, by simpa [Value.cells] using this⟩
/-- A slice of structs. -/
theorem open_flats {r : Reach} {b0 : Nat} {t e : TypeId} {ts : List TypeId} {v : Value} {d : DataW H} {p : List MemPlace} (ht : P.underlying t = some (.slice e)) (hl : leaves P 8 e = some ts) (hC : P.cellsOf e = ts.length) (h0 : 0 < ts.length)
    (hv : Value.okWide P w r b0 t v) (h : DataW.Trod enc P w 0 (fun _ => true) held t v d p) :
    ∃ (A : Option Addr) (n cap : Nat), v = .slice A n cap ∧ n ≤ cap ∧ cap ≤ maxLen ∧ (0 < n → ∃ b off, A = some ⟨b, off, none⟩ ∧ b < w.heap.size ∧
      ∀ i, i < n → ∀ (j : Nat) tj, ts[j]? = some tj → ∃ u, w.cell? ⟨b, off + i * ts.length + j, none⟩ = some u ∧ Holds1 enc P w 0 (fun _ => true) held tj u) := by
  obtain ⟨A, n, cap, rfl⟩ := okWide_slice ht hv
  obtain ⟨fuel, hf⟩ := h
  rcases open_slice ht hf with ⟨hcs, _⟩ | ⟨a, len, c, m, k, D, Pl, hcs, _, hl1, hm, hmm, _, hi⟩
  · simp [Value.cells] at hcs
    obtain ⟨rfl, rfl, rfl⟩ := hcs
    exact ⟨none, 0, 0, rfl, Nat.le_refl _, by simp [maxLen], fun h => absurd h (by omega)⟩
  · simp [Value.cells] at hcs
    obtain ⟨rfl, rfl, rfl⟩ := hcs
    simp only [if_true] at hmm
    subst hmm
    refine ⟨some a, n, m, rfl, hl1, hm, fun hn => ?_⟩
    have hat : ∀ i, i < m → ∀ (j : Nat) tj, ts[j]? = some tj → ∃ u, w.cell? (a.add (i * ts.length + j)) = some u ∧ Holds1 enc P w 0 (fun _ => true) held tj u := by
      intro i him j tj hj
      obtain ⟨cs', hc, ht'⟩ := hi i him
      rw [hC] at hc
      obtain ⟨_, hcl, hcat⟩ := World.cells?_some hc
      obtain ⟨u, hu, hh⟩ := leaves_held 8 e _ _ _ _ hl (by omega) ht' j tj hj
      have hjl : j < ts.length := (List.getElem?_eq_some_iff.1 hj).1
      refine ⟨u, ?_, hh⟩
      rw [← Go.Deep.add_add, hcat j hjl, hu]
    obtain ⟨u0, hu0, _⟩ := hat 0 (by omega) 0 _ (List.getElem?_eq_getElem h0)
    obtain ⟨b, off, spot⟩ := a
    have hspot : spot = none := by simpa [Addr.add] using World.cell?_spot hu0
    subst hspot
    refine ⟨b, off, rfl, World.block_lt_of_cell? w _ (by simpa [Addr.add] using hu0), fun i hi2 j tj hj => ?_⟩
    obtain ⟨u, hu, hh⟩ := hat i (by omega) j tj hj
    have hadd : (⟨b, off, none⟩ : Addr).add (i * ts.length + j) = ⟨b, off + i * ts.length + j, none⟩ := by
      unfold Addr.add; split <;> simp_all [Nat.add_assoc]
    rw [hadd] at hu
    exact ⟨u, hu, hh⟩
/-- A key, an entry, by value. -/
theorem open_key {r : Reach} {b0 : Nat} {t t0 t1 : TypeId} {fs : Array Field} {v : Value} {d : DataW H} {p : List MemPlace} (hs : P.underlying t = some (.struct fs)) (hl : leaves P 8 t = some [t0, t1]) (hn : P.cellsOf t = 2) (h0 : P.underlying t0 = some (.int .i64)) (h1 : P.underlying t1 = some (.int .u64))
    (hv : Value.okWide P w r b0 t v) (h : DataW.Trod enc P w base spare held t v d p) :
    ∃ (a : Int) (m : Nat), v = .agg #[.int .i64 a, .int .u64 (m : Int)] ∧ (-9223372036854775808 ≤ a ∧ a ≤ 9223372036854775807) ∧ m < 18446744073709551616 := by
  obtain ⟨l, rfl, hlen, hf⟩ := open_flat hs hl hn hv h
  obtain ⟨u0, e0, g0⟩ := hf 0 t0 rfl
  obtain ⟨u1, e1, g1⟩ := hf 1 t1 rfl
  obtain ⟨a, rfl, ha⟩ := g0.i64 h0
  obtain ⟨m, rfl, hm⟩ := g1.u64 h1
  match l, hlen with
  | [x, y], _ =>
    simp at e0 e1
    subst e0 e1
    exact ⟨a, m, rfl, ha, hm⟩
theorem open_entry {r : Reach} {b0 : Nat} {t t0 t1 t2 t3 t4 : TypeId} {fs : Array Field} {v : Value} {d : DataW H} {p : List MemPlace} (hs : P.underlying t = some (.struct fs)) (hl : leaves P 8 t = some [t0, t1, t2, t3, t4]) (hn : P.cellsOf t = 5) (h0 : P.underlying t0 = some (.int .i64)) (h1 : P.underlying t1 = some (.int .u64)) (h2 : P.underlying t2 = some (.int .i64)) (h3 : P.underlying t3 = some .bool) (h4 : P.underlying t4 = some (.int .u32))
    (hv : Value.okWide P w r b0 t v) (h : DataW.Trod enc P w base spare held t v d p) :
    ∃ (a : Int) (m : Nat) (q : Int) (b : Bool) (s : Nat), v = .agg #[.int .i64 a, .int .u64 (m : Int), .int .i64 q, .bool b, .int .u32 (s : Int)] ∧ (-9223372036854775808 ≤ a ∧ a ≤ 9223372036854775807) ∧ m < 18446744073709551616 ∧ (-9223372036854775808 ≤ q ∧ q ≤ 9223372036854775807) ∧ s < 4294967296 := by
  obtain ⟨l, rfl, hlen, hf⟩ := open_flat hs hl hn hv h
  obtain ⟨u0, e0, g0⟩ := hf 0 t0 rfl
  obtain ⟨u1, e1, g1⟩ := hf 1 t1 rfl
  obtain ⟨u2, e2, g2⟩ := hf 2 t2 rfl
  obtain ⟨u3, e3, g3⟩ := hf 3 t3 rfl
  obtain ⟨u4, e4, g4⟩ := hf 4 t4 rfl
  obtain ⟨a, rfl, ha⟩ := g0.i64 h0
  obtain ⟨m, rfl, hm⟩ := g1.u64 h1
  obtain ⟨q, rfl, hq⟩ := g2.i64 h2
  obtain ⟨b, rfl⟩ := g3.bool h3
  obtain ⟨s, rfl, hs⟩ := g4.u32 h4
  match l, hlen with
  | [x0, x1, x2, x3, x4], _ =>
    simp at e0 e1 e2 e3 e4
    subst e0 e1 e2 e3 e4
    exact ⟨a, m, q, b, s, rfl, ha, hm, hq, hs⟩
end
end
section
theorem and_low (m : Nat) : m &&& 281474976710655 = m % 281474976710656 := by
  have := Nat.and_two_pow_sub_one_eq_mod m 48
  simpa using this
theorem andNot_15 (a : Nat) (ha : a < 18446744073709551616) : a &&& (18446744073709551615 - 15) = a / 16 * 16 := by
  have e1 : (18446744073709551615 - 15 : Nat) = (2 ^ 60 - 1) <<< 4 := by decide
  have e2 : a / 16 * 16 = (a >>> 4) <<< 4 := by rw [Nat.shiftLeft_eq, Nat.shiftRight_eq_div_pow]
  rw [e1, e2]
  apply Nat.eq_of_testBit_eq
  intro i
  simp only [Nat.testBit_and, Nat.testBit_shiftLeft, Nat.testBit_shiftRight, Nat.testBit_two_pow_sub_one]
  by_cases h4 : i ≥ 4
  · by_cases h64 : i < 64
    · have : i - 4 < 60 := by omega
      have e : 4 + (i - 4) = i := by omega
      simp [h4, this, e]
    · have : a.testBit i = false := Nat.testBit_lt_two_pow (Nat.lt_of_lt_of_le ha (by
        have : 2 ^ 64 ≤ 2 ^ i := Nat.pow_le_pow_right (by omega) (by omega)
        simpa using this))
      have e : 4 + (i - 4) = i := by omega
      simp [h4, this, e]
  · simp [h4]
theorem and_bit (a k : Nat) : a &&& 2 ^ k = (a / 2 ^ k % 2) * 2 ^ k := by
  have hc : a.testBit k = decide (a / 2 ^ k % 2 = 1) := Nat.testBit_eq_decide_div_mod_eq ..
  have h2 : a / 2 ^ k % 2 = 0 ∨ a / 2 ^ k % 2 = 1 := by omega
  apply Nat.eq_of_testBit_eq
  intro i
  rw [Nat.testBit_and, Nat.testBit_two_pow]
  by_cases hi : k = i
  · subst hi
    rcases h2 with h | h <;> simp [hc, h]
  · rcases h2 with h | h <;> simp [h, hi]
theorem and_40 (a : Nat) : a &&& 1099511627776 = (a / 1099511627776 % 2) * 1099511627776 := by
  have := and_bit a 40
  simpa using this
theorem and_41 (a : Nat) : a &&& 2199023255552 = (a / 2199023255552 % 2) * 2199023255552 := by
  have := and_bit a 41
  simpa using this
theorem and_15 (a : Nat) : a &&& 15 = a % 16 := by
  have := Nat.and_two_pow_sub_one_eq_mod a 4
  simpa using this
theorem or_byte (a b : Nat) (hb : b < 256) : (a * 256) ||| b = a * 256 + b := by
  have := Nat.shiftLeft_add_eq_or_of_lt (i := 8) (b := b) (by simpa using hb) a
  rw [Nat.shiftLeft_eq] at this
  simpa using this.symm
theorem or_nib (a b : Nat) (hb : b < 16) : (a * 16) ||| b = a * 16 + b := by
  have := Nat.shiftLeft_add_eq_or_of_lt (i := 4) (b := b) (by simpa using hb) a
  rw [Nat.shiftLeft_eq] at this
  simpa using this.symm

/-- The six bytes of an address. -/
def mb (m : Nat) : List Nat := [m / 1099511627776 % 256, m / 4294967296 % 256, m / 16777216 % 256, m / 65536 % 256, m / 256 % 256, m % 256]
theorem mb_length (m : Nat) : (mb m).length = 6 := rfl
theorem mb_lt (m : Nat) : ∀ x ∈ mb m, x < 256 := by
  intro x hx
  simp only [mb, List.mem_cons, List.not_mem_nil, or_false] at hx
  omega
/-- The last k of them. -/
def lastk (m : Nat) : Nat → List Nat
  | 0 => []
  | k + 1 => (m / 256 ^ k % 256) :: lastk m k
theorem lastk_length (m k : Nat) : (lastk m k).length = k := by
  induction k with
  | zero => rfl
  | succ k ih => simp [lastk, ih]
theorem lastk_six (m : Nat) : lastk m 6 = mb m := by simp [lastk, mb]
theorem mb_low (m : Nat) : mb (m % 281474976710656) = mb m := by
  simp only [mb, List.cons.injEq, and_true]
  omega
/-- Its kind. -/
def kindN (m : Nat) : Nat :=
  if m % 281474976710656 = 281474976710655 then 2 else if m % 281474976710656 / 16 * 16 = 1652522221568 then 3 else m / 1099511627776 % 2
theorem reserved_iff (m : Nat) : m % 281474976710656 / 16 * 16 = 1652522221568 ↔
    (m / 1099511627776 % 256 = 1 ∧ m / 4294967296 % 256 = 128 ∧ m / 16777216 % 256 = 194 ∧ m / 65536 % 256 = 0 ∧ m / 256 % 256 = 0 ∧ m % 256 < 16) := by
  omega
def localN (m : Nat) : Bool := decide (m / 2199023255552 % 2 = 1)

/-- A digit of base 16. -/
def digN (c : Nat) : Option Nat := if 48 ≤ c ∧ c ≤ 57 then some (c - 48) else if 97 ≤ c ∧ c ≤ 102 then some (c - 87) else none
theorem digN_lt {c d : Nat} (h : digN c = some d) : d < 16 := by
  unfold digN at h
  split at h
  · simp at h; omega
  · split at h
    · simp at h; omega
    · simp at h
/-- The number of the first k signs. -/
def parK (s : List Nat) : Nat → Option Nat
  | 0 => some 0
  | k + 1 => match parK s k with
    | none => none
    | some n => if k % 3 = 2 then (if s.getD k 0 = 45 then some n else none) else match digN (s.getD k 0) with
      | none => none
      | some d => some (n * 16 + d)
def parseN (s : List Nat) : Option Nat := if s.length = 17 then parK s 17 else none
theorem parK_none {s : List Nat} {k j : Nat} (h : parK s k = none) (hj : k ≤ j) : parK s j = none := by
  induction j with
  | zero => have : k = 0 := by omega
            subst this; exact h
  | succ j ih =>
    rcases Nat.lt_or_ge k (j + 1) with hlt | hge
    · rw [parK, ih (by omega)]
    · have : k = j + 1 := by omega
      subst this; exact h
theorem parK_sep {s : List Nat} {k n : Nat} (h : parK s k = some n) (hk : k % 3 = 2) : parK s (k + 1) = if s.getD k 0 = 45 then some n else none := by rw [parK, h]; simp only [hk, if_true]
theorem parK_dig {s : List Nat} {k n : Nat} (h : parK s k = some n) (hk : k % 3 ≠ 2) : parK s (k + 1) = (digN (s.getD k 0)).map (n * 16 + ·) := by
  rw [parK, h]; simp only [hk, if_false]
  cases digN (s.getD k 0) <;> rfl
/-- The number grows by at most a digit a sign, and not at a separator. -/
theorem parK_lt {s : List Nat} {k n : Nat} (h : parK s k = some n) : n < 16 ^ (k - k / 3) := by
  induction k generalizing n with
  | zero => simp [parK] at h; subst h; simp
  | succ k ih =>
    cases hp : parK s k with
    | none => rw [parK, hp] at h; simp at h
    | some m =>
      have hm := ih hp
      by_cases hk : k % 3 = 2
      · rw [parK_sep hp hk] at h
        split at h
        · simp at h; subst h
          have : k + 1 - (k + 1) / 3 = k - k / 3 := by omega
          rw [this]; exact hm
        · simp at h
      · rw [parK_dig hp hk] at h
        cases hd : digN (s.getD k 0) with
        | none => rw [hd] at h; simp at h
        | some d =>
          rw [hd] at h
          simp at h
          have hd16 := digN_lt hd
          have : k + 1 - (k + 1) / 3 = (k - k / 3) + 1 := by omega
          rw [this, Nat.pow_succ]
          omega
theorem parK_small {s : List Nat} {k n : Nat} (h : parK s k = some n) (hk : k ≤ 17) : n < 281474976710656 :=
  Nat.lt_of_lt_of_le (parK_lt h) (by
    have : 16 ^ (k - k / 3) ≤ 16 ^ 12 := Nat.pow_le_pow_right (by omega) (by omega)
    simpa using this)
/-- A string's bytes as numbers. -/
def sl (s : ByteArray) : List Nat := s.data.toList.map (·.toNat)
theorem sl_length (s : ByteArray) : (sl s).length = s.size := by simp [sl]
theorem sl_at (s : ByteArray) (k : Nat) (h : k < s.size) : (s[k]'h).toNat = (sl s).getD k 0 := by
  have h2 : k < s.data.size := h
  have e : s.data[k]? = some (s[k]'h) := Array.getElem?_eq_getElem h2
  simp [sl, List.getD_eq_getElem?_getD, List.getElem?_map, e]
theorem sl_lt (s : ByteArray) (k : Nat) : (sl s).getD k 0 < 256 := by
  rcases Nat.lt_or_ge k s.size with h | h
  · rw [← sl_at s k h]; exact UInt8.toNat_lt _
  · rw [List.getD_eq_getElem?_getD, List.getElem?_eq_none (by rw [sl_length]; exact h)]; simp

/-- A digit's sign; the text of an address's first k bytes. -/
def hexc (d : Nat) : Nat := if d < 10 then 48 + d else 87 + d
def texK (m : Nat) : Nat → List Nat
  | 0 => []
  | k + 1 => texK m k ++ (if 0 < k then [45] else []) ++ [hexc ((mb m).getD k 0 / 16), hexc ((mb m).getD k 0 % 16)]
theorem texK_length (m k : Nat) : (texK m k).length = if k = 0 then 0 else 3 * k - 1 := by
  induction k with
  | zero => rfl
  | succ k ih =>
    rw [texK]
    by_cases h : k = 0
    · subst h; simp [texK]
    · simp [ih, h, show 0 < k by omega]; omega
theorem hexc_lt (d : Nat) (h : d < 16) : hexc d < 256 := by unfold hexc; split <;> omega
theorem mb_getD_lt (m k : Nat) : (mb m).getD k 0 < 256 := by
  rw [List.getD_eq_getElem?_getD]
  rcases Nat.lt_or_ge k (mb m).length with h | h
  · rw [List.getElem?_eq_getElem h]; exact mb_lt m _ (List.getElem_mem h)
  · rw [List.getElem?_eq_none h]; simp
theorem texK_lt (m k : Nat) : ∀ x ∈ texK m k, x < 256 := by
  induction k with
  | zero => simp [texK]
  | succ k ih =>
    intro x hx
    have hb := mb_getD_lt m k
    have h1 := hexc_lt ((mb m).getD k 0 / 16) (by omega)
    have h2 := hexc_lt ((mb m).getD k 0 % 16) (by omega)
    rw [texK] at hx
    simp only [List.mem_append, List.mem_cons, List.not_mem_nil, or_false] at hx
    rcases hx with (hx | hx) | hx | hx
    · exact ih x hx
    · split at hx
      · simp at hx; omega
      · simp at hx
    · omega
    · omega
def texN (m : Nat) : List Nat := texK m 6
/-- Numbers as a string of bytes. -/
def stB (l : List Nat) : ByteArray := ⟨(l.map UInt8.ofNat).toArray⟩
theorem stB_append (a b : List Nat) : stB a ++ stB b = stB (a ++ b) := by
  apply ByteArray.ext
  simp [stB, ByteArray.data_append]
theorem stB_size (l : List Nat) : (stB l).size = l.length := by
  show (stB l).data.size = _
  simp [stB]
theorem sl_stB (l : List Nat) (h : ∀ x ∈ l, x < 256) : sl (stB l) = l := by
  unfold sl stB
  simp only [List.map_map]
  conv => rhs; rw [← List.map_id l]
  apply List.map_congr_left
  intro x hx
  have := h x hx
  simp
  omega
theorem stB_sl (s : ByteArray) : stB (sl s) = s := by
  apply ByteArray.ext
  simp [stB, sl, Function.comp_def]
end
section
theorem bit_lt {p : Nat} (hp : p < 64) : 2 ^ p < 18446744073709551616 := Nat.lt_of_lt_of_eq (Nat.pow_lt_pow_right (by omega) hp) (by decide)
theorem and_one (s k : Nat) : s &&& 2 ^ k = if s.testBit k = true then 2 ^ k else 0 := by
  apply Nat.eq_of_testBit_eq
  intro i
  rw [Nat.testBit_and, Nat.testBit_two_pow]
  split
  · rename_i h
    rw [Nat.testBit_two_pow]
    by_cases hk : k = i
    · subst hk; simp [h]
    · simp [hk]
  · rename_i h
    by_cases hk : k = i
    · subst hk; simp [h]
    · simp [hk]
theorem or_bit_same {s k : Nat} (h : s.testBit k = true) : s ||| 2 ^ k = s := by
  apply Nat.eq_of_testBit_eq
  intro i
  rw [Nat.testBit_or, Nat.testBit_two_pow]
  by_cases hk : k = i
  · subst hk; simp [h]
  · simp [hk]
theorem or_bit_add {s k : Nat} (hs : s < 18446744073709551616) (hk : k < 64) (h : s.testBit k = false) : s ||| 2 ^ k = s + 2 ^ k := by
  have h1 := bit_lt hk
  have hx : (BitVec.ofNat 65 s).toNat = s := by rw [BitVec.toNat_ofNat]; exact Nat.mod_eq_of_lt (by omega)
  have hy : (BitVec.ofNat 65 (2 ^ k)).toNat = 2 ^ k := by rw [BitVec.toNat_ofNat]; exact Nat.mod_eq_of_lt (by omega)
  have h0 : BitVec.ofNat 65 s &&& BitVec.ofNat 65 (2 ^ k) = 0#65 := by
    apply BitVec.eq_of_toNat_eq
    rw [BitVec.toNat_and, hx, hy, and_one, h]
    rfl
  have := congrArg BitVec.toNat (BitVec.add_eq_or_of_and_eq_zero _ _ h0)
  rw [BitVec.toNat_add, BitVec.toNat_or, hx, hy, Nat.mod_eq_of_lt (by omega)] at this
  exact this.symm
/-- Is a port in a set? The set with it, and without it. -/
def hasB (s : Nat) (p : Int) : Bool := decide (0 ≤ p ∧ p < 64) && s.testBit p.toNat
def withN (s : Nat) (p : Int) : Nat := if 0 ≤ p ∧ p < 64 then s ||| 2 ^ p.toNat else s
def withoutN (s : Nat) (p : Int) : Nat := if hasB s p = true then s - 2 ^ p.toNat else s
theorem hasB_out (s : Nat) {p : Int} (hp : p < 0 ∨ 64 ≤ p) : hasB s p = false := by
  unfold hasB
  rw [decide_eq_false (by omega)]; rfl
theorem hasB_in (s : Nat) {k : Nat} (hk : k < 64) : hasB s (k : Int) = s.testBit k := by
  unfold hasB
  rw [decide_eq_true (by omega), Int.toNat_natCast]; rfl
theorem has_and (s k : Nat) : (((s &&& 2 ^ k : Nat) : Int) != 0) = s.testBit k := by
  rw [and_one]
  have : 0 < 2 ^ k := Nat.two_pow_pos k
  generalize 2 ^ k = y at *
  cases h : s.testBit k
  · simp
  · simp
    omega
theorem withN_out (s : Nat) {p : Int} (hp : p < 0 ∨ 64 ≤ p) : withN s p = s := by unfold withN; rw [if_neg (by omega)]
theorem withN_in (s : Nat) {k : Nat} (hk : k < 64) : withN s (k : Int) = s ||| 2 ^ k := by unfold withN; rw [if_pos (by omega), Int.toNat_natCast]
theorem withoutN_out (s : Nat) {p : Int} (hp : p < 0 ∨ 64 ≤ p) : withoutN s p = s := by unfold withoutN; rw [hasB_out s hp]; rfl
theorem withoutN_in (s : Nat) {k : Nat} (hk : k < 64) : withoutN s (k : Int) = if s.testBit k = true then s - 2 ^ k else s := by unfold withoutN; rw [hasB_in s hk, Int.toNat_natCast]
/-- Without a bit, by what the bits of both are. -/
theorem without_of_bits {s k t : Nat} (hs : t < 18446744073709551616) (hk : k < 64) (h : ∀ i, t.testBit i = (s.testBit i && !decide (k = i))) : t = if s.testBit k = true then s - 2 ^ k else s := by
  have ht : t.testBit k = false := by rw [h k]; simp
  split
  · rename_i hb
    have e : t ||| 2 ^ k = s := by
      apply Nat.eq_of_testBit_eq
      intro i
      rw [Nat.testBit_or, Nat.testBit_two_pow, h i]
      by_cases hk : k = i
      · subst hk; simp [hb]
      · simp [hk]
    rw [or_bit_add hs hk ht] at e
    omega
  · rename_i hb
    apply Nat.eq_of_testBit_eq
    intro i
    rw [h i]
    by_cases hk : k = i
    · subst hk; simp at hb; simp [hb]
    · simp [hk]
theorem andNot_one {s k : Nat} (hs : s < 18446744073709551616) (hk : k < 64) : s &&& (18446744073709551615 - 2 ^ k) = if s.testBit k = true then s - 2 ^ k else s := by
  have h1 := bit_lt hk
  refine without_of_bits (Nat.lt_of_le_of_lt Nat.and_le_left hs) hk fun i => ?_
  have e : 18446744073709551615 - 2 ^ k = 2 ^ 64 - (2 ^ k + 1) := by omega
  rw [Nat.testBit_and, e, Nat.testBit_two_pow_sub_succ (by omega), Nat.testBit_two_pow]
  by_cases hi : i < 64
  · simp [hi]
  · have : s.testBit i = false := Nat.testBit_lt_two_pow (Nat.lt_of_lt_of_le hs (show 2 ^ 64 ≤ 2 ^ i from Nat.pow_le_pow_right (by omega) (by omega)))
    simp [this]
theorem and_all {s : Nat} (hs : s < 18446744073709551616) : s &&& (18446744073709551615 - 0) = s := by
  have := Nat.and_two_pow_sub_one_eq_mod s 64
  have h2 : s % 2 ^ 64 = s := Nat.mod_eq_of_lt hs
  rw [h2] at this
  exact this
theorem withoutN_lt {s : Nat} (hs : s < 18446744073709551616) (p : Int) : withoutN s p < 18446744073709551616 := by
  unfold withoutN
  split
  · exact Nat.lt_of_le_of_lt (Nat.sub_le _ _) hs
  · exact hs
theorem withN_lt {s : Nat} (hs : s < 18446744073709551616) (p : Int) : withN s p < 18446744073709551616 := by
  unfold withN
  split
  · exact Nat.or_lt_two_pow (n := 64) hs (bit_lt (by omega))
  · exact hs
end
section
open Go.RowKit

/-- A VLAN: its number, its ports, and those without a tag. -/
structure Vl where
  vid : Int
  mem : Nat
  unt : Nat
def vl0 : Vl := ⟨0, 0, 0⟩
def Vl.ok (x : Vl) : Prop := (-9223372036854775808 ≤ x.vid ∧ x.vid ≤ 9223372036854775807) ∧ x.mem < 18446744073709551616 ∧ x.unt < 18446744073709551616
def Vl.cells (x : Vl) : List Value := [.int .i64 x.vid, .int .u64 (x.mem : Nat), .int .u64 (x.unt : Nat)]
def vlc : List Vl → List Value
  | [] => []
  | x :: l => x.cells ++ vlc l
theorem vlc_length : ∀ l : List Vl, (vlc l).length = l.length * 3
  | [] => rfl
  | x :: l => by
    have := vlc_length l
    simp [vlc, Vl.cells, this]
    omega
theorem vlc_append : ∀ a b : List Vl, vlc (a ++ b) = vlc a ++ vlc b
  | [], b => rfl
  | x :: a, b => by simp [vlc, vlc_append a b]
theorem vlc_at : ∀ (l : List Vl) (j f : Nat), f < 3 → (vlc l)[j * 3 + f]? = (l[j]?).bind fun x => x.cells[f]?
  | [], j, f, _ => by simp [vlc]
  | x :: l, 0, f, h => by
    rw [vlc, List.getElem?_append_left (by simp [Vl.cells]; omega)]
    simp
  | x :: l, j + 1, f, h => by
    have := vlc_at l j f h
    rw [vlc, List.getElem?_append_right (by simp [Vl.cells]; omega)]
    have e : (j + 1) * 3 + f - x.cells.length = j * 3 + f := by simp [Vl.cells]; omega
    rw [e, this]
    simp
theorem vlc_take : ∀ (l : List Vl) (k : Nat), (vlc l).take (k * 3) = vlc (l.take k)
  | [], k => by simp [vlc]
  | x :: l, 0 => by simp [vlc]
  | x :: l, k + 1 => by
    have := vlc_take l k
    rw [vlc, List.take_append, List.take_of_length_le (by simp [Vl.cells]; omega)]
    have e : (k + 1) * 3 - x.cells.length = k * 3 := by simp [Vl.cells]; omega
    rw [e, this]
    simp [vlc]
theorem vlc_one (l : List Vl) : ∀ u ∈ vlc l, u.oneCell' = true := by
  induction l with
  | nil => simp [vlc]
  | cons x l ih =>
    intro u hu
    rw [vlc, List.mem_append] at hu
    rcases hu with h | h
    · simp [Vl.cells] at h
      rcases h with rfl | rfl | rfl <;> rfl
    · exact ih u h
theorem vl_ok {l : List Vl} (h : ∀ x ∈ l, x.ok) (k : Nat) : (l.getD k vl0).ok := by
  rw [List.getD_eq_getElem?_getD]
  rcases Nat.lt_or_ge k l.length with hk | hk
  · rw [List.getElem?_eq_getElem hk]; exact h _ (List.getElem_mem hk)
  · rw [List.getElem?_eq_none hk]
    simp [Vl.ok, vl0]
/-- The cells of such a row. -/
theorem Sl.vlAt {w : World} {B n : Nat} {v : Value} {l : List Vl} (h : Sl w B 3 v n (vlc l)) (hn : 0 < n) :
    ∃ b off cap, v = .slice (some ⟨b, off, none⟩) n cap ∧ n ≤ cap ∧ cap ≤ maxLen ∧ b < B ∧ l.length = n ∧
      ∀ j, j < n → w.cell? ⟨b, off + j * 3, none⟩ = some (.int .i64 (l.getD j vl0).vid) ∧ w.cell? ⟨b, off + j * 3 + 1, none⟩ = some (.int .u64 ((l.getD j vl0).mem : Nat)) ∧ w.cell? ⟨b, off + j * 3 + 2, none⟩ = some (.int .u64 ((l.getD j vl0).unt : Nat)) := by
  have hl := h.len
  rw [vlc_length] at hl
  obtain ⟨b, off, cap, rfl, h1, h2, h3, h4⟩ := h.at_ hn
  refine ⟨b, off, cap, rfl, h1, h2, h3, by omega, fun j hj => ?_⟩
  have hjl : j < l.length := by omega
  have a0 := h4 (j * 3 + 0) (by omega)
  have a1 := h4 (j * 3 + 1) (by omega)
  have a2 := h4 (j * 3 + 2) (by omega)
  rw [vlc_at l j _ (by omega), List.getElem?_eq_getElem hjl] at a0 a1 a2
  simp only [List.getD_eq_getElem?_getD, List.getElem?_eq_getElem hjl, Option.getD_some]
  exact ⟨a0, a1, a2⟩
theorem Sl.vlLen {w : World} {B n : Nat} {v : Value} {l : List Vl} (h : Sl w B 3 v n (vlc l)) : l.length = n := by
  have hl := h.len
  rw [vlc_length] at hl
  omega

/-- The first place below k at which f holds; -1: none. -/
def firstI (f : Nat → Bool) : Nat → Int
  | 0 => -1
  | k + 1 => if 0 ≤ firstI f k then firstI f k else if f k = true then (k : Int) else -1
theorem firstI_none (f : Nat → Bool) : ∀ k, (∀ i, i < k → f i = false) → firstI f k = -1
  | 0, _ => rfl
  | k + 1, h => by
    rw [firstI, firstI_none f k fun i hi => h i (by omega), if_neg (by omega), h k (by omega)]
    rfl
theorem firstI_at (f : Nat → Bool) (k : Nat) (h : ∀ i, i < k → f i = false) (hk : f k = true) : ∀ n, k < n → firstI f n = (k : Int)
  | 0, h0 => by omega
  | n + 1, h0 => by
    rw [firstI]
    rcases Nat.lt_or_ge k n with h1 | h1
    · rw [firstI_at f k h hk n h1, if_pos (by omega)]
    · obtain rfl : k = n := by omega
      rw [firstI_none f k h, if_neg (by omega), if_pos hk]
theorem firstI_bd (f : Nat → Bool) : ∀ k, -1 ≤ firstI f k ∧ firstI f k < k
  | 0 => by simp [firstI]
  | k + 1 => by
    have := firstI_bd f k
    rw [firstI]
    split
    · omega
    · split <;> omega
/-- Where a VLAN of a number stands; whether frames may come in; where they may go out. -/
def vidAt (l : List Vl) (vid : Int) (i : Nat) : Bool := (l.getD i vl0).vid == vid
def findN (l : List Vl) (vid : Int) (n : Nat) : Int := firstI (vidAt l vid) n
def enterN (l : List Vl) (vid port : Int) (n : Nat) : Nat := if findN l vid n < 0 then 7 else if hasB (l.getD (findN l vid n).toNat vl0).mem port = true then 0 else 8
def leaveN (l : List Vl) (vid port : Int) (n : Nat) : Nat := if findN l vid n < 0 then 0 else withoutN (l.getD (findN l vid n).toNat vl0).mem port
end
section
open Go.ChangeShapes Go.WideShapes Go.RowKit Go.Deep

theorem list_of {α : Type} (d : α) {Q : Nat → α → Prop} : ∀ n, (∀ i, i < n → ∃ x, Q i x) → ∃ l : List α, l.length = n ∧ ∀ i, i < n → Q i (l.getD i d)
  | 0, _ => ⟨[], rfl, fun i hi => by omega⟩
  | n + 1, h => by
    obtain ⟨l, hl, hq⟩ := list_of d n fun i hi => h i (by omega)
    obtain ⟨x, hx⟩ := h n (by omega)
    refine ⟨l ++ [x], by simp [hl], fun i hi => ?_⟩
    rcases Nat.lt_or_ge i n with h1 | h1
    · have := hq i h1
      rw [List.getD_eq_getElem?_getD, List.getElem?_append_left (by omega), ← List.getD_eq_getElem?_getD]
      exact this
    · obtain rfl : i = n := by omega
      rw [List.getD_eq_getElem?_getD, List.getElem?_append_right (by omega), hl]
      simpa using hx
theorem Sl.of_vls {w : World} {B n b off cap : Nat} {l : List Vl} (hl : l.length = n) (h1 : n ≤ cap) (h2 : cap ≤ maxLen) (hb : b < B)
    (h : ∀ j, j < n → w.cell? ⟨b, off + j * 3, none⟩ = some (.int .i64 (l.getD j vl0).vid) ∧ w.cell? ⟨b, off + j * 3 + 1, none⟩ = some (.int .u64 ((l.getD j vl0).mem : Nat)) ∧ w.cell? ⟨b, off + j * 3 + 2, none⟩ = some (.int .u64 ((l.getD j vl0).unt : Nat))) :
    Sl w B 3 (.slice (some ⟨b, off, none⟩) n cap) n (vlc l) := by
  refine ⟨by rw [vlc_length, hl], _, cap, rfl, h1, h2, fun _ => ⟨b, off, rfl, hb, fun j hj => ?_⟩⟩
  have e : j = j / 3 * 3 + j % 3 := by omega
  have hm : j % 3 < 3 := by omega
  have hq : j / 3 < n := by omega
  obtain ⟨c0, c1, c2⟩ := h (j / 3) hq
  have hql : j / 3 < l.length := by omega
  have hv : (vlc l)[j]? = (l[j / 3]?).bind fun x => x.cells[j % 3]? := by
    have := vlc_at l (j / 3) (j % 3) hm
    rw [← e] at this
    exact this
  rw [hv, List.getElem?_eq_getElem hql]
  simp only [List.getD_eq_getElem?_getD, List.getElem?_eq_getElem hql, Option.getD_some] at c0 c1 c2
  have ea : off + j = off + j / 3 * 3 + j % 3 := by omega
  rw [ea]
  rcases (show j % 3 = 0 ∨ j % 3 = 1 ∨ j % 3 = 2 by omega) with h | h | h
  · rw [h]; exact c0
  · rw [h]; exact c1
  · rw [h]; exact c2
section
variable {H : Type} {enc : TypeId × Value → H} {P : Program} {w : World} {held : Bool}
theorem open_vls {r : Reach} {b0 : Nat} {t e : TypeId} {f0 f1 f2 : Field} {v : Value} {d : DataW H} {p : List MemPlace} (ht : P.underlying t = some (.slice e)) (hs : P.underlying e = some (.struct #[f0, f1, f2])) (hone : oneCellFields P #[f0, f1, f2] = true) (hC : P.cellsOf e = 3)
    (h0 : P.underlying f0.type = some (.int .i64)) (h1 : P.underlying f1.type = some (.int .u64)) (h2 : P.underlying f2.type = some (.int .u64))
    (hv : Value.okWide P w r b0 t v) (h : DataW.Trod enc P w 0 (fun _ => true) held t v d p) :
    ∃ l : List Vl, Sl w w.heap.size 3 v l.length (vlc l) ∧ ∀ x ∈ l, x.ok := by
  obtain ⟨A, n, cap, rfl, hn, hm, hc⟩ := open_rows ht hs hone hC (by simp) hv h
  rcases Nat.eq_zero_or_pos n with hz | hz
  · subst hz
    exact ⟨[], ⟨by simp [vlc], A, cap, rfl, by simp, hm, fun h => absurd h (by simp)⟩, by simp⟩
  · obtain ⟨b, off, rfl, hb, hcell⟩ := hc hz
    have hex : ∀ i, i < n → ∃ x : Vl, x.ok ∧ w.cell? ⟨b, off + i * 3, none⟩ = some (.int .i64 x.vid) ∧ w.cell? ⟨b, off + i * 3 + 1, none⟩ = some (.int .u64 (x.mem : Nat)) ∧ w.cell? ⟨b, off + i * 3 + 2, none⟩ = some (.int .u64 (x.unt : Nat)) := by
      intro i hi
      obtain ⟨u0, e0, g0⟩ := hcell i hi 0 f0 rfl
      obtain ⟨u1, e1, g1⟩ := hcell i hi 1 f1 rfl
      obtain ⟨u2, e2, g2⟩ := hcell i hi 2 f2 rfl
      obtain ⟨a, rfl, ha⟩ := g0.i64 h0
      obtain ⟨m, rfl, hm⟩ := g1.u64 h1
      obtain ⟨u, rfl, hu⟩ := g2.u64 h2
      exact ⟨⟨a, m, u⟩, ⟨ha, hm, hu⟩, e0, e1, e2⟩
    obtain ⟨l, hl, hq⟩ := list_of vl0 n hex
    refine ⟨l, ?_, fun x hx => ?_⟩
    · rw [hl]
      exact Sl.of_vls hl hn hm hb fun j hj => (hq j hj).2
    · obtain ⟨i, hi, rfl⟩ := List.getElem_of_mem hx
      have := (hq i (by omega)).1
      rw [List.getD_eq_getElem?_getD, List.getElem?_eq_getElem hi] at this
      exact this
end
end
section
theorem testBit_withN (s : Nat) {k : Nat} (hk : k < 64) (i : Nat) : (withN s (k : Int)).testBit i = (s.testBit i || decide (k = i)) := by
  rw [withN_in s hk, Nat.testBit_or, Nat.testBit_two_pow]
theorem testBit_withoutN {s : Nat} (hs : s < 18446744073709551616) {k : Nat} (hk : k < 64) (i : Nat) : (withoutN s (k : Int)).testBit i = (s.testBit i && !decide (k = i)) := by
  rw [withoutN_in s hk, ← andNot_one hs hk]
  have h1 := bit_lt hk
  have e : 18446744073709551615 - 2 ^ k = 2 ^ 64 - (2 ^ k + 1) := by omega
  rw [Nat.testBit_and, e, Nat.testBit_two_pow_sub_succ (by omega), Nat.testBit_two_pow]
  by_cases hi : i < 64
  · simp [hi]
  · have : s.testBit i = false := Nat.testBit_lt_two_pow (Nat.lt_of_lt_of_le hs (show 2 ^ 64 ≤ 2 ^ i from Nat.pow_le_pow_right (by omega) (by omega)))
    simp [this]
theorem has_with_self {s : Nat} {p : Int} (h : 0 ≤ p ∧ p < 64) : hasB (withN s p) p = true := by
  obtain ⟨k, rfl⟩ := Int.eq_ofNat_of_zero_le h.1
  have hk : k < 64 := by omega
  rw [hasB_in _ hk, testBit_withN s hk]
  simp
theorem has_without_self {s : Nat} (hs : s < 18446744073709551616) (p : Int) : hasB (withoutN s p) p = false := by
  by_cases h : 0 ≤ p ∧ p < 64
  · obtain ⟨k, rfl⟩ := Int.eq_ofNat_of_zero_le h.1
    have hk : k < 64 := by omega
    rw [hasB_in _ hk, testBit_withoutN hs hk]
    simp
  · exact hasB_out _ (by omega)
theorem has_with_other (s : Nat) {p q : Int} (h : q ≠ p) : hasB (withN s p) q = hasB s q := by
  by_cases hp : 0 ≤ p ∧ p < 64
  · obtain ⟨k, rfl⟩ := Int.eq_ofNat_of_zero_le hp.1
    have hk : k < 64 := by omega
    by_cases hq : 0 ≤ q ∧ q < 64
    · obtain ⟨i, rfl⟩ := Int.eq_ofNat_of_zero_le hq.1
      have hi : i < 64 := by omega
      rw [hasB_in _ hi, hasB_in _ hi, testBit_withN s hk]
      simp
      omega
    · rw [hasB_out _ (by omega), hasB_out _ (by omega)]
  · rw [withN_out s (by omega)]
theorem has_without_other {s : Nat} (hs : s < 18446744073709551616) {p q : Int} (h : q ≠ p) : hasB (withoutN s p) q = hasB s q := by
  by_cases hp : 0 ≤ p ∧ p < 64
  · obtain ⟨k, rfl⟩ := Int.eq_ofNat_of_zero_le hp.1
    have hk : k < 64 := by omega
    by_cases hq : 0 ≤ q ∧ q < 64
    · obtain ⟨i, rfl⟩ := Int.eq_ofNat_of_zero_le hq.1
      have hi : i < 64 := by omega
      rw [hasB_in _ hi, hasB_in _ hi, testBit_withoutN hs hk]
      simp
      omega
    · rw [hasB_out _ (by omega), hasB_out _ (by omega)]
  · rw [withoutN_out s (by omega)]
end
section
/-- Is one set in another, of the first k ports? -/
def withinK (a b : Nat) : Nat → Bool
  | 0 => true
  | k + 1 => withinK a b k && !(a.testBit k && !b.testBit k)
def withinB (a b : Nat) : Bool := withinK a b 64
theorem withinK_iff (a b : Nat) : ∀ k, withinK a b k = true ↔ ∀ i, i < k → a.testBit i = true → b.testBit i = true
  | 0 => by simp [withinK]
  | k + 1 => by
    rw [withinK, Bool.and_eq_true, withinK_iff a b k]
    constructor
    · rintro ⟨h1, h2⟩ i hi ha
      rcases Nat.lt_or_ge i k with h | h
      · exact h1 i h ha
      · obtain rfl : i = k := by omega
        rw [ha] at h2
        simpa using h2
    · intro h
      refine ⟨fun i hi => h i (by omega), ?_⟩
      cases hk : a.testBit k
      · rfl
      · rw [h k (by omega) hk]; rfl
theorem withinK_no {a b k n : Nat} (hk : k < n) (ha : a.testBit k = true) (hb : b.testBit k = false) : withinK a b n = false := by
  cases h : withinK a b n
  · rfl
  · have := (withinK_iff a b n).1 h k hk ha
    rw [hb] at this
    cases this
theorem andNot_within {a b : Nat} (ha : a < 18446744073709551616) (hb : b < 18446744073709551616) : (((a &&& (18446744073709551615 - b) : Nat) : Int) != 0) = !withinB a b := by
  have e : 18446744073709551615 - b = 2 ^ 64 - (b + 1) := by omega
  have hz : (a &&& (18446744073709551615 - b) = 0) ↔ withinB a b = true := by
    unfold withinB
    rw [withinK_iff, e]
    constructor
    · intro h i hi hai
      have h2 := congrArg (fun x => x.testBit i) h
      simp only [Nat.testBit_and, Nat.zero_testBit] at h2
      rw [Nat.testBit_two_pow_sub_succ (by omega), hai] at h2
      simpa [hi] using h2
    · intro h
      apply Nat.eq_of_testBit_eq
      intro i
      rw [Nat.testBit_and, Nat.zero_testBit, Nat.testBit_two_pow_sub_succ (by omega)]
      by_cases hi : i < 64
      · cases hai : a.testBit i
        · rfl
        · rw [h i hi hai]; simp
      · have : a.testBit i = false := Nat.testBit_lt_two_pow (Nat.lt_of_lt_of_le ha (show 2 ^ 64 ≤ 2 ^ i from Nat.pow_le_pow_right (by omega) (by omega)))
        simp [this]
  generalize a &&& (18446744073709551615 - b) = x at *
  cases h : withinB a b
  · have : ¬ x = 0 := fun hx => by rw [hz.1 hx] at h; cases h
    simp; omega
  · have := hz.2 h
    subst this
    rfl
/-- The first n ports. -/
def allN (n : Int) : Nat := if 64 ≤ n then 18446744073709551615 else 2 ^ n.toNat - 1
theorem allN_lt (n : Int) : allN n < 18446744073709551616 := by
  unfold allN
  split
  · omega
  · rename_i h
    have := bit_lt (show n.toNat < 64 by omega)
    omega
theorem with_ones (k : Nat) (hk : k < 64) : withN (2 ^ k - 1) (k : Int) = 2 ^ (k + 1) - 1 := by
  have h0 := Nat.two_pow_pos k
  have h1 := bit_lt hk
  rw [withN_in _ hk, or_bit_add (by omega) hk (by rw [Nat.testBit_two_pow_sub_one]; simp), Nat.pow_succ]
  omega
/-- May a VLAN's number be? May a rule be? -/
def vidB (v : Int) : Bool := decide (1 ≤ v) && decide (v ≤ 4094)
def ruleB (p a : Int) : Bool := vidB p && (decide (0 ≤ a) && decide (a ≤ 2))
/-- What is wrong with the VLAN at i. -/
def wrongAt (l : List Vl) (ports : Int) (i : Nat) : Nat :=
  if vidB (l.getD i vl0).vid = false ∨ (0 < i ∧ (l.getD i vl0).vid ≤ (l.getD (i - 1) vl0).vid) then 6
  else if withinB (l.getD i vl0).mem (allN ports) = false then 5
  else if withinB (l.getD i vl0).unt (l.getD i vl0).mem = false then 1 else 0
/-- The first of the first k that is wrong. -/
def firstW (f : Nat → Nat) : Nat → Nat
  | 0 => 0
  | k + 1 => if firstW f k = 0 then f k else firstW f k
theorem firstW_none (f : Nat → Nat) : ∀ k, (∀ i, i < k → f i = 0) → firstW f k = 0
  | 0, _ => rfl
  | k + 1, h => by
    rw [firstW, firstW_none f k fun i hi => h i (by omega), if_pos rfl]
    exact h k (by omega)
theorem firstW_at (f : Nat → Nat) (k : Nat) (h : ∀ i, i < k → f i = 0) (hk : f k ≠ 0) : ∀ n, k < n → firstW f n = f k
  | 0, h0 => by omega
  | n + 1, h0 => by
    rw [firstW]
    rcases Nat.lt_or_ge k n with h1 | h1
    · rw [firstW_at f k h hk n h1, if_neg hk]
    · obtain rfl : k = n := by omega
      rw [firstW_none f k h, if_pos rfl]
def checkN (l : List Vl) (ports : Int) (n : Nat) : Nat := if ports < 2 ∨ 64 < ports then 5 else if 16 < n then 8 else firstW (wrongAt l ports) n
theorem check5 {l : List Vl} {ports : Int} {n : Nat} (h : ports < 2 ∨ 64 < ports) : checkN l ports n = 5 := by unfold checkN; rw [if_pos h]
theorem check8 {l : List Vl} {ports : Int} {n : Nat} (h : ¬ (ports < 2 ∨ 64 < ports)) (h2 : 16 < n) : checkN l ports n = 8 := by unfold checkN; rw [if_neg h, if_pos h2]
theorem check0 {l : List Vl} {ports : Int} {n : Nat} (h : ¬ (ports < 2 ∨ 64 < ports)) (h2 : ¬ 16 < n) (h3 : ∀ i, i < n → wrongAt l ports i = 0) : checkN l ports n = 0 := by unfold checkN; rw [if_neg h, if_neg h2]; exact firstW_none _ _ h3
theorem checkAt {l : List Vl} {ports : Int} {n k E : Nat} (h : ¬ (ports < 2 ∨ 64 < ports)) (h2 : ¬ 16 < n) (h3 : ∀ i, i < k → wrongAt l ports i = 0) (hk : k < n) (he : wrongAt l ports k = E) (hE : E ≠ 0) : checkN l ports n = E := by
  unfold checkN; rw [if_neg h, if_neg h2, firstW_at _ k h3 (by rw [he]; exact hE) n hk]; exact he
end
section
open Go.RowKit

/-- A port's rule: the VLAN of frames that tell none, which frames it takes. -/
structure Rl where
  pv : Int
  ac : Int
def rl0 : Rl := ⟨0, 0⟩
def Rl.cells (x : Rl) : List Value := [.int .i64 x.pv, .int .i64 x.ac]
def rlc : List Rl → List Value
  | [] => []
  | x :: l => x.cells ++ rlc l
theorem rlc_length : ∀ l : List Rl, (rlc l).length = l.length * 2
  | [] => rfl
  | x :: l => by
    have := rlc_length l
    simp [rlc, Rl.cells, this]
    omega
theorem rlc_append : ∀ a b : List Rl, rlc (a ++ b) = rlc a ++ rlc b
  | [], b => rfl
  | x :: a, b => by simp [rlc, rlc_append a b]
theorem rlc_at : ∀ (l : List Rl) (j f : Nat), f < 2 → (rlc l)[j * 2 + f]? = (l[j]?).bind fun x => x.cells[f]?
  | [], j, f, _ => by simp [rlc]
  | x :: l, 0, f, h => by
    rw [rlc, List.getElem?_append_left (by simp [Rl.cells]; omega)]
    simp
  | x :: l, j + 1, f, h => by
    have := rlc_at l j f h
    rw [rlc, List.getElem?_append_right (by simp [Rl.cells]; omega)]
    have e : (j + 1) * 2 + f - x.cells.length = j * 2 + f := by simp [Rl.cells]; omega
    rw [e, this]
    simp
theorem rlc_one (l : List Rl) : ∀ u ∈ rlc l, u.oneCell' = true := by
  induction l with
  | nil => simp [rlc]
  | cons x l ih =>
    intro u hu
    rw [rlc, List.mem_append] at hu
    rcases hu with h | h
    · simp [Rl.cells] at h
      rcases h with rfl | rfl <;> rfl
    · exact ih u h
/-- The cells of such a row. -/
theorem Sl.rlAt {w : World} {B n : Nat} {v : Value} {l : List Rl} (h : Sl w B 2 v n (rlc l)) (hn : 0 < n) :
    ∃ b off cap, v = .slice (some ⟨b, off, none⟩) n cap ∧ n ≤ cap ∧ cap ≤ maxLen ∧ b < B ∧ l.length = n ∧
      ∀ j, j < n → w.cell? ⟨b, off + j * 2, none⟩ = some (.int .i64 (l.getD j rl0).pv) ∧ w.cell? ⟨b, off + j * 2 + 1, none⟩ = some (.int .i64 (l.getD j rl0).ac) := by
  have hl := h.len
  rw [rlc_length] at hl
  obtain ⟨b, off, cap, rfl, h1, h2, h3, h4⟩ := h.at_ hn
  refine ⟨b, off, cap, rfl, h1, h2, h3, by omega, fun j hj => ?_⟩
  have hjl : j < l.length := by omega
  have a0 := h4 (j * 2 + 0) (by omega)
  have a1 := h4 (j * 2 + 1) (by omega)
  rw [rlc_at l j _ (by omega), List.getElem?_eq_getElem hjl] at a0 a1
  simp only [List.getD_eq_getElem?_getD, List.getElem?_eq_getElem hjl, Option.getD_some]
  exact ⟨a0, a1⟩
theorem Sl.rlLen {w : World} {B n : Nat} {v : Value} {l : List Rl} (h : Sl w B 2 v n (rlc l)) : l.length = n := by
  have hl := h.len
  rw [rlc_length] at hl
  omega
/-- Is a rule none that may be? -/
def badR (l : List Rl) (k : Nat) : Bool := !(ruleB (l.getD k rl0).pv (l.getD k rl0).ac)
/-- The first place whose rule may not be: m (the length: there is none). -/
def FirstBad (l : List Rl) (n m : Nat) : Prop := m ≤ n ∧ (∀ i, i < m → badR l i = false) ∧ (m < n → badR l m = true)
theorem firstBad_ex (l : List Rl) : ∀ n, ∃ m, FirstBad l n m
  | 0 => ⟨0, Nat.le_refl _, fun i h => by omega, fun h => by omega⟩
  | n + 1 => by
    obtain ⟨m, h1, h2, h3⟩ := firstBad_ex l n
    by_cases e : m < n
    · exact ⟨m, by omega, h2, fun _ => h3 e⟩
    · have e' : m = n := by omega
      subst e'
      cases hb : badR l m
      · exact ⟨m + 1, by omega, fun i hi => by
          by_cases f : i = m
          · rw [f]; exact hb
          · exact h2 i (by omega), fun h => by omega⟩
      · exact ⟨m, by omega, h2, fun _ => hb⟩
def withinI (n most : Int) : Bool := decide (1 ≤ n) && decide (n ≤ most)
end
section
open Go.RowKit

theorem ret_u64 {a b : Int} (h : a = b) : Ending.returned (.int .u64 a) = .returned (.int .u64 b) := by rw [h]
theorem ret_u32 {a b : Int} (h : a = b) : Ending.returned (.int .u32 a) = .returned (.int .u32 b) := by rw [h]
theorem ret_u16 {a b : Int} (h : a = b) : Ending.returned (.int .u16 a) = .returned (.int .u16 b) := by rw [h]
theorem ret_i64 {a b : Int} (h : a = b) : Ending.returned (.int .i64 a) = .returned (.int .i64 b) := by rw [h]
theorem ret_bool {a b : Bool} (h : a = b) : Ending.returned (.bool a) = .returned (.bool b) := by rw [h]
def Quiet (v : Value) (w : World) (e : Ending) (w' : World) : Prop := e = .returned v ∧ ∃ n, w' = w.drewN n
/-- It answered just that, and turned nothing that was there. -/
def Says (v : Value) (w : World) (e : Ending) (w' : World) : Prop := e = .returned v ∧ Below w.heap.size w w'
theorem Says.of_same {v : Value} {w : World} {e : Ending} {w' : World} (h : e = .returned v ∧ w = w') : Says v w e w' := ⟨h.1, h.2 ▸ Below.refl _ _⟩
theorem below_drewN {B : Nat} {a w : World} (h : Below B a w) (n : Nat) : Below B a (w.drewN n) := ⟨h.os, h.tape, h.output, h.size, h.block⟩
theorem Says.of_quiet {v : Value} {w : World} {e : Ending} {w' : World} (h : Quiet v w e w') : Says v w e w' := by
  obtain ⟨h1, n, rfl⟩ := h
  exact ⟨h1, below_drewN (Below.refl _ _) n⟩
theorem bcell {W w1 : World} {B : Nat} (hb : Below B W w1) : (∀ b o, b < B → w1.cell? ⟨b, o, none⟩ = W.cell? ⟨b, o, none⟩) ∧ (∀ b o, b < B → w1.frozen? ⟨b, o, none⟩ = W.frozen? ⟨b, o, none⟩) :=
  ⟨fun b o h => hb.cell (p := ⟨b, o, none⟩) h, fun b o h => hb.frozen (p := ⟨b, o, none⟩) h⟩
end
section
/-- Two bytes as a number. -/
def num2 (l : List Nat) (i : Nat) : Nat := l.getD i 0 * 256 + l.getD (i + 1) 0
theorem getD_lt {l : List Nat} (h : ∀ x ∈ l, x < 256) (k : Nat) : l.getD k 0 < 256 := by
  rw [List.getD_eq_getElem?_getD]
  rcases Nat.lt_or_ge k l.length with hk | hk
  · rw [List.getElem?_eq_getElem hk]; exact h _ (List.getElem_mem hk)
  · rw [List.getElem?_eq_none hk]; simp
theorem num2_lt {l : List Nat} (h : ∀ x ∈ l, x < 256) (i : Nat) : num2 l i < 65536 := by
  have := getD_lt h i
  have := getD_lt h (i + 1)
  unfold num2
  omega
theorem getD_drop (l : List Nat) (k i : Nat) : (l.drop k).getD i 0 = l.getD (k + i) 0 := by
  simp [List.getD_eq_getElem?_getD, List.getElem?_drop]
theorem num2_drop (l : List Nat) (k i : Nat) : num2 (l.drop k) i = num2 l (k + i) := by
  unfold num2
  rw [getD_drop, getD_drop, Nat.add_assoc]
theorem mem_drop {l : List Nat} (h : ∀ x ∈ l, x < 256) (k : Nat) : ∀ x ∈ l.drop k, x < 256 := fun x hx => h x (List.mem_of_mem_drop hx)
theorem mem_take {l : List Nat} (h : ∀ x ∈ l, x < 256) (k : Nat) : ∀ x ∈ l.take k, x < 256 := fun x hx => h x (List.mem_of_mem_take hx)

/-- Is there a tag? May a Type stand before so many bytes? -/
def tagB (l : List Nat) : Bool := decide (num2 l 12 = 33024)
theorem tagB_iff {l : List Nat} (h : ∀ x ∈ l, x < 256) : tagB l = true ↔ l.getD 12 0 = 129 ∧ l.getD 13 0 = 0 := by
  have h1 := getD_lt h 12
  have h2 := getD_lt h 13
  unfold tagB num2
  rw [decide_eq_true_eq]
  show l.getD 12 0 * 256 + l.getD 13 0 = 33024 ↔ _
  omega
def meetsB (k n : Nat) : Bool := decide ((k ≤ 1500 ∧ k ≤ n) ∨ 1536 ≤ k)

/-- A frame; what bytes tell; the error. -/
structure Fr where
  dst : Nat
  src : Nat
  tagged : Bool
  tci : Nat
  typ : Nat
  load : List Nat
def Fr.zero : Fr := ⟨0, 0, false, 0, 0, []⟩
def headN (l : List Nat) : Nat := if tagB l then 18 else 14
def errN (l : List Nat) : Nat :=
  if l.length < 60 then 2 else if 1500 + headN l < l.length then 3 else if meetsB (num2 l (headN l - 2)) (l.length - headN l) then 0 else 4
/-- The first k bytes' number. -/
def ofk (l : List Nat) : Nat → Nat
  | 0 => 0
  | k + 1 => ofk l k * 256 + l.getD k 0
def parF (l : List Nat) : Fr := ⟨ofk l 6, ofk (l.drop 6) 6, tagB l, if tagB l then num2 l 14 else 0, num2 l (headN l - 2), l.drop (headN l)⟩
def parR (l : List Nat) : Fr := if errN l = 0 then parF l else Fr.zero
theorem errN_ok {l : List Nat} (h : errN l = 0) : 60 ≤ l.length ∧ l.length ≤ 1500 + headN l ∧ meetsB (num2 l (headN l - 2)) (l.length - headN l) = true := by
  unfold errN at h
  split at h
  · omega
  · split at h
    · omega
    · split at h
      · exact ⟨by omega, by omega, by assumption⟩
      · omega

/-- A frame's bytes. -/
def padL (l : List Nat) : List Nat := l ++ List.replicate (60 - l.length) 0
def by2 (n : Nat) : List Nat := [n / 256, n % 256]
def wErr (f : Fr) : Nat :=
  if ¬ (f.dst < 281474976710656 ∧ f.src < 281474976710656) then 1 else if f.tagged = false ∧ (f.tci ≠ 0 ∨ f.typ = 33024) then 1 else if 1500 < f.load.length then 3 else if meetsB f.typ f.load.length then 0 else 4
def wBytes (f : Fr) : List Nat := padL (mb f.dst ++ mb f.src ++ (if f.tagged then [129, 0] ++ by2 f.tci else []) ++ by2 f.typ ++ f.load)
/-- The bytes with another tag, or without one. -/
def oErr (l : List Nat) (tagged : Bool) (vid : Int) : Nat := if errN l ≠ 0 then errN l else if tagged = true ∧ (vid < 1 ∨ 4094 < vid) then 6 else 0
def oBytes (l : List Nat) (tagged : Bool) (vid : Nat) : List Nat :=
  padL (l.take 12 ++ (if tagged then [129, 0] ++ by2 ((if tagB l then num2 l 14 else 0) / 4096 * 4096 + vid) else []) ++ l.drop (if tagB l then 16 else 12))
end
section
open Go.RowKit

/-- In a region that draws: a callee that turns nothing, or draws alone, whatever was drawn ahead of it. -/
theorem still0 {P : Program} {f : FuncId} {args : Array Value} {v : Value} (h : ∀ W, Calls P f args W fun e w' => e = .returned v ∧ W = w') (w : World) (n : Nat) :
    Calls P f args (w.drewN n) fun e w' => e = .returned v ∧ ∃ m, w' = w.drewN m := (h _).mono fun _ _ hh => ⟨hh.1, n, hh.2.symm⟩
theorem still1 {P : Program} {f : FuncId} {args : Array Value} {v : Value} (h : ∀ W, Calls P f args W fun e w' => e = .returned v ∧ W = w') (w : World) (a n : Nat) :
    Calls P f args (w.drewN (a + n)) fun e w' => e = .returned v ∧ ∃ m, w' = w.drewN (a + m) := (h _).mono fun _ _ hh => ⟨hh.1, n, hh.2.symm⟩
theorem drawn0 {P : Program} {f : FuncId} {args : Array Value} {v : Value} (h : ∀ W, Calls P f args W (Quiet v W)) (w : World) (n : Nat) :
    Calls P f args (w.drewN n) fun e w' => e = .returned v ∧ ∃ m, w' = w.drewN m := (h _).mono fun _ _ ⟨h1, m, h2⟩ => ⟨h1, n + m, by rw [h2, World.drewN_drewN]⟩
theorem drawn1 {P : Program} {f : FuncId} {args : Array Value} {v : Value} (h : ∀ W, Calls P f args W (Quiet v W)) (w : World) (a n : Nat) :
    Calls P f args (w.drewN (a + n)) fun e w' => e = .returned v ∧ ∃ m, w' = w.drewN (a + m) := (h _).mono fun _ _ ⟨h1, m, h2⟩ => ⟨h1, n + m, by rw [h2, World.drewN_drewN, Nat.add_assoc]⟩
end
section
open Go.RowKit

/-- The cells that a make lays. -/
def mkC (z : Value) (size M : Nat) : Array Value := madeCells z.cells (M * size)
theorem mkC_size (z : Value) (size M : Nat) : (mkC z size M).size = M * size := size_madeCells _ _
/-- 'make([]T, 0, M)'. -/
theorem run_mk {P : Program} (w : World) {t e : TypeId} {z : Value} {size bytes : Nat} (hT : ST P t e z size bytes) (M : Nat) (hM : bytes * M ≤ 281474976710656) :
    (Instr.makeSlice t (.int .i64 0) (.int .i64 (M : Int))).run P w = .ok (.slice (some ⟨w.heap.size, 0, none⟩) 0 M) (w.alloc (.cells (mkC z size M) e)) := by
  obtain ⟨i, ht, hi, hz, hsz, hby, hzs, hs0, hb0⟩ := hT
  have h1 : M ≤ bytes * M := Nat.le_mul_of_pos_left _ hb0
  have h2 : (i.bytes : Int) * (M : Int) ≤ 281474976710656 := by
    have h3 : ((bytes * M : Nat) : Int) ≤ 281474976710656 := by omega
    rw [hby]
    rwa [Int.natCast_mul] at h3
  have := run_make (P := P) w t e i z ht hi hz .i64 .i64 0 (M : Int) (Int.le_refl _) (by omega) h2 (by omega)
  rw [hsz] at this
  exact this
theorem own_made_at {w : World} {B g M size : Nat} {z : Value} {e : TypeId} (hg : w.heap.size = g) (hB : B ≤ g) (hM : M ≤ maxLen) : (w.alloc (.cells (mkC z size M) e)).ownsRow B e size (.slice (some ⟨g, 0, none⟩) 0 M) 0 [] := by
  subst hg
  exact World.ownsRow_made w _ M hB hM (mkC_size _ _ _)
end
section
def rightK (v : Int) (m : Nat) : Bool := decide (1 ≤ v ∧ v ≤ 4094 ∧ 0 < m ∧ m < 281474976710656 ∧ m / 1099511627776 % 2 = 0)
theorem rightK_iff {v : Int} {m : Nat} : rightK v m = true ↔ 1 ≤ v ∧ v ≤ 4094 ∧ 0 < m ∧ m < 281474976710656 ∧ m / 1099511627776 % 2 = 0 := by simp [rightK]
theorem rightK_no {v : Int} {m : Nat} (h : ¬ (1 ≤ v ∧ v ≤ 4094 ∧ 0 < m ∧ m < 281474976710656 ∧ m / 1099511627776 % 2 = 0)) : rightK v m = false := by
  unfold rightK; exact decide_eq_false h
theorem kind_zero {m : Nat} (h : m < 281474976710656) : kindN m = 0 ↔ m / 1099511627776 % 2 = 0 := by
  unfold kindN
  rw [Nat.mod_eq_of_lt h]
  split
  · omega
  · split <;> omega
def wordN (v : Int) (m : Nat) : Nat := if rightK v m = true then 1152921504606846976 + v.toNat * 281474976710656 + m else 0
theorem wordN_yes {v : Int} {m : Nat} (h : rightK v m = true) : wordN v m = 1152921504606846976 + v.toNat * 281474976710656 + m := if_pos h
theorem wordN_no {v : Int} {m : Nat} (h : rightK v m = false) : wordN v m = 0 := by unfold wordN; rw [h]; rfl
theorem wordN_lt (v : Int) (m : Nat) : wordN v m < 18446744073709551616 := by
  cases h : rightK v m
  · rw [wordN_no h]; omega
  · rw [wordN_yes h]
    have := rightK_iff.1 h
    omega
/-- Whose word it is. -/
def vidW (w : Nat) : Nat := w / 281474976710656 % 4096
def macW (w : Nat) : Nat := w % 281474976710656
def okW (w : Nat) : Bool := rightK (vidW w : Int) (macW w) && decide (w / 1152921504606846976 = 1)
theorem okW_iff {w : Nat} : okW w = true ↔ rightK (vidW w : Int) (macW w) = true ∧ w / 1152921504606846976 = 1 := by simp [okW]
theorem word_back {w : Nat} (h : okW w = true) : wordN (vidW w : Int) (macW w) = w := by
  obtain ⟨h1, h2⟩ := okW_iff.1 h
  rw [wordN_yes h1, Int.toNat_natCast]
  unfold vidW macW
  omega
theorem of_word {v : Int} {m : Nat} (h : rightK v m = true) : okW (wordN v m) = true ∧ (vidW (wordN v m) : Int) = v ∧ macW (wordN v m) = m := by
  have hr := rightK_iff.1 h
  have e1 : (vidW (wordN v m) : Int) = v := by rw [wordN_yes h]; unfold vidW; omega
  have e2 : macW (wordN v m) = m := by rw [wordN_yes h]; unfold macW; omega
  refine ⟨okW_iff.2 ⟨by rw [e1, e2]; exact h, by rw [wordN_yes h]; omega⟩, e1, e2⟩
/-- Whether a word is what it tells: the program's own way. -/
theorem okW_word (w : Nat) (hw : w < 18446744073709551616) : okW w = (rightK (vidW w : Int) (macW w) && decide (wordN (vidW w : Int) (macW w) = w)) := by
  cases hr : rightK (vidW w : Int) (macW w)
  · unfold okW; rw [hr]; rfl
  · unfold okW
    rw [hr, Bool.true_and, Bool.true_and, decide_eq_decide]
    constructor
    · intro h
      exact word_back (okW_iff.2 ⟨hr, h⟩)
    · intro h
      rw [wordN_yes hr, Int.toNat_natCast] at h
      have := rightK_iff.1 hr
      omega
theorem or_48 (a b : Nat) (hb : b < 281474976710656) : (a * 281474976710656) ||| b = a * 281474976710656 + b := by
  have := Nat.shiftLeft_add_eq_or_of_lt (i := 48) (b := b) (by simpa using hb) a
  rw [Nat.shiftLeft_eq] at this
  simpa using this.symm
theorem or_word (v m : Nat) (hv : v < 4096) (hm : m < 281474976710656) : (1152921504606846976 ||| v * 281474976710656) ||| m = 1152921504606846976 + v * 281474976710656 + m := by
  have e1 := or_48 4096 0 (by omega)
  have h1 : (1152921504606846976 ||| v * 281474976710656) = (4096 + v) * 281474976710656 := by
    have := Nat.shiftLeft_add_eq_or_of_lt (i := 60) (b := v * 281474976710656) (by omega) 1
    rw [Nat.shiftLeft_eq] at this
    have e : (1 * 2 ^ 60 : Nat) = 1152921504606846976 := by decide
    rw [e] at this
    omega
  rw [h1, or_48 _ _ hm]
  omega
theorem and_4095 (a : Nat) : a &&& 4095 = a % 4096 := by
  have := Nat.and_two_pow_sub_one_eq_mod a 12
  simpa using this
theorem and_255 (a : Nat) : a &&& 255 = a % 256 := by
  have := Nat.and_two_pow_sub_one_eq_mod a 8
  simpa using this
theorem and_256 (a : Nat) : a &&& 256 = (a / 256 % 2) * 256 := by
  have := and_bit a 8
  simpa using this
theorem or_32 (a b : Nat) (hb : b < 4294967296) : (a * 4294967296) ||| b = a * 4294967296 + b := by
  have := Nat.shiftLeft_add_eq_or_of_lt (i := 32) (b := b) (by simpa using hb) a
  rw [Nat.shiftLeft_eq] at this
  simpa using this.symm
theorem or_256 (s p : Nat) (hp : p < 256) : (s * 4294967296 + p) ||| 256 = s * 4294967296 + 256 + p := by
  rw [← or_32 s p (by omega), Nat.or_assoc]
  have : p ||| 256 = 256 + p := by
    have := Nat.shiftLeft_add_eq_or_of_lt (i := 8) (b := p) (by simpa using hp) 1
    rw [Nat.shiftLeft_eq] at this
    rw [Nat.or_comm]
    simpa using this.symm
  rw [this, or_32 s _ (by omega)]
  omega
/-- A key that may be, out of any. -/
def fixV (v : Int) : Int := 1 + v % 18446744073709551616 % 4094
def fixM (m : Nat) : Nat :=
  if m % 281474976710656 / 1099511627776 % 2 = 1 then (if m % 281474976710656 - 1099511627776 = 0 then 1 else m % 281474976710656 - 1099511627776)
  else (if m % 281474976710656 = 0 then 1 else m % 281474976710656)
theorem fix_right (v : Int) (m : Nat) : rightK (fixV v) (fixM m) = true := by
  rw [rightK_iff]
  unfold fixV fixM
  have h : m % 281474976710656 < 281474976710656 := Nat.mod_lt _ (by omega)
  generalize m % 281474976710656 = L at *
  refine ⟨by omega, by omega, ?_⟩
  split <;> split <;> omega
theorem fixV_lt (v : Int) : 1 ≤ fixV v ∧ fixV v ≤ 4094 := by unfold fixV; omega
theorem fixM_lt (m : Nat) : fixM m < 281474976710656 := (rightK_iff.1 (fix_right 0 m)).2.2.2.1
theorem word_inj {v v' : Int} {m m' : Nat} (h : rightK v m = true) (h' : rightK v' m' = true) : wordN v m = wordN v' m' ↔ v = v' ∧ m = m' := by
  constructor
  · intro e
    obtain ⟨_, a1, a2⟩ := of_word h
    obtain ⟨_, b1, b2⟩ := of_word h'
    rw [e] at a1 a2
    exact ⟨a1.symm.trans b1, a2.symm.trans b2⟩
  · rintro ⟨rfl, rfl⟩; rfl

/-- What is known of a station. -/
structure En where
  vid : Int
  mac : Nat
  port : Int
  st : Bool
  stamp : Nat
deriving DecidableEq
def en0 : En := ⟨0, 0, 0, false, 0⟩
def En.ok (e : En) : Prop := (-9223372036854775808 ≤ e.vid ∧ e.vid ≤ 9223372036854775807) ∧ e.mac < 18446744073709551616 ∧ (-9223372036854775808 ≤ e.port ∧ e.port ≤ 9223372036854775807) ∧ e.stamp < 4294967296
def rightE (e : En) : Bool := rightK e.vid e.mac && decide (0 ≤ e.port ∧ e.port < 64 ∧ ¬ (e.st = true ∧ e.stamp ≠ 0))
theorem rightE_iff {e : En} : rightE e = true ↔ rightK e.vid e.mac = true ∧ 0 ≤ e.port ∧ e.port < 64 ∧ ¬ (e.st = true ∧ e.stamp ≠ 0) := by
  unfold rightE
  rw [Bool.and_eq_true, decide_eq_true_eq]
def lowN (e : En) : Nat := e.stamp * 4294967296 + (if e.st = true then 256 else 0) + e.port.toNat
def wordA (e : En) : Nat := if rightE e = true then wordN e.vid e.mac else 0
def wordB (e : En) : Nat := if rightE e = true then lowN e else 0
def entW (a b : Nat) : En := ⟨vidW a, macW a, (b % 256 : Nat), decide (b / 256 % 2 = 1), b / 4294967296⟩
def okE (a b : Nat) : Bool := okW a && rightE (entW a b) && decide (b / 512 % 8388608 = 0)
theorem okE_iff {a b : Nat} : okE a b = true ↔ okW a = true ∧ rightE (entW a b) = true ∧ b / 512 % 8388608 = 0 := by simp [okE, and_assoc]
theorem lowN_lt {e : En} (h : rightE e = true) (hs : e.stamp < 4294967296) : lowN e < 18446744073709551616 := by
  have := rightE_iff.1 h
  unfold lowN
  split <;> omega
theorem low_back {a b : Nat} (h : b / 512 % 8388608 = 0) : lowN (entW a b) = b := by
  unfold lowN entW
  simp only [Int.toNat_natCast, decide_eq_true_eq]
  split <;> omega
theorem words_back {a b : Nat} (h : okE a b = true) : wordA (entW a b) = a ∧ wordB (entW a b) = b := by
  obtain ⟨h1, h2, h3⟩ := okE_iff.1 h
  unfold wordA wordB
  rw [if_pos h2, if_pos h2]
  exact ⟨word_back h1, low_back h3⟩
theorem of_words {e : En} (h : rightE e = true) (hs : e.stamp < 4294967296) : okE (wordA e) (wordB e) = true ∧ entW (wordA e) (wordB e) = e := by
  obtain ⟨h1, h2, h3, h4⟩ := rightE_iff.1 h
  obtain ⟨a1, a2, a3⟩ := of_word h1
  obtain ⟨p, hp⟩ := Int.eq_ofNat_of_zero_le h2
  have e1 : entW (wordA e) (wordB e) = e := by
    unfold entW wordA wordB
    rw [if_pos h, if_pos h, a2, a3]
    obtain ⟨v, m, q, st, s⟩ := e
    simp only at hp hs
    subst hp
    unfold lowN
    simp only [Int.toNat_natCast, En.mk.injEq, true_and]
    simp only at h3
    cases st
    · refine ⟨by simp; omega, by simp; omega, by simp; omega⟩
    · refine ⟨by simp; omega, by simp; omega, by simp; omega⟩
  refine ⟨okE_iff.2 ⟨?_, by rw [e1]; exact h, ?_⟩, e1⟩
  · unfold wordA; rw [if_pos h]; exact a1
  · unfold wordB lowN; rw [if_pos h]
    split <;> omega
theorem words_inj {e e' : En} (h : rightE e = true) (h' : rightE e' = true) (hs : e.stamp < 4294967296) (hs' : e'.stamp < 4294967296) : (wordA e = wordA e' ∧ wordB e = wordB e') ↔ e = e' := by
  constructor
  · rintro ⟨x, y⟩
    rw [← (of_words h hs).2, ← (of_words h' hs').2, x, y]
  · rintro rfl; exact ⟨rfl, rfl⟩
/-- Whether words are what they tell: the program's own way. -/
theorem okE_back (a b : Nat) (hb : b < 18446744073709551616) (ha : okW a = true) : okE a b = decide (wordB (entW a b) = b) := by
  have hw : okE a b = (rightE (entW a b) && decide (b / 512 % 8388608 = 0)) := by unfold okE; rw [ha]; rfl
  rw [hw]
  unfold wordB
  cases hr : rightE (entW a b)
  · simp only [Bool.false_and]
    symm
    apply decide_eq_false
    rw [if_neg (by simp)]
    intro h0
    subst h0
    have : rightE (entW a 0) = true := rightE_iff.2 ⟨(okW_iff.1 ha).1, by simp [entW], by simp [entW], by simp [entW]⟩
    rw [hr] at this
    exact absurd this (by simp)
  · rw [Bool.true_and, decide_eq_decide, if_pos rfl]
    constructor
    · exact fun h => low_back h
    · intro h
      unfold lowN entW at h
      simp only [Int.toNat_natCast, decide_eq_true_eq] at h
      split at h <;> omega
/-- An entry that may be, out of any. -/
def fixE (e : En) : En := ⟨fixV e.vid, fixM e.mac, e.port % 18446744073709551616 % 64, e.st, if e.st = true then 0 else e.stamp⟩
theorem fixE_right (e : En) : rightE (fixE e) = true := by
  refine rightE_iff.2 ⟨fix_right _ _, by simp only [fixE]; omega, by simp only [fixE]; omega, ?_⟩
  simp only [fixE]
  rintro ⟨h1, h2⟩
  rw [if_pos h1] at h2
  exact h2 rfl
theorem fixE_stamp {e : En} (h : e.stamp < 4294967296) : (fixE e).stamp < 4294967296 := by
  simp only [fixE]; split <;> omega
end
section
open Go.RowKit

/-- How long ago; so much later; too long ago; how long entries live. -/
def distN (now t : Nat) : Nat := (now + 4294967296 - t) % 4294967296
def ageN (now t : Nat) : Nat := if distN now t < 2147483648 then distN now t else 0
def addN (t by_ : Nat) : Nat := (t + by_) % 4294967296
def oldB (now t lim : Nat) : Bool := decide (lim < ageN now t)
def limN (n s : Nat) (c : Bool) : Nat := if c = true ∧ s < n then s else n
theorem distN_lt (now t : Nat) : distN now t < 4294967296 := Nat.mod_lt _ (by omega)
theorem ageN_lt (now t : Nat) : ageN now t < 2147483648 := by unfold ageN; split <;> omega
theorem ageN_in {now t : Nat} (h : distN now t < 2147483648) : ageN now t = distN now t := if_pos h
theorem ageN_out {now t : Nat} (h : ¬ distN now t < 2147483648) : ageN now t = 0 := if_neg h
theorem addN_lt (t b : Nat) : addN t b < 4294967296 := Nat.mod_lt _ (by omega)
theorem wrap_dist {now t : Nat} (h : now < 4294967296) (ht : t < 4294967296) : IntKind.u32.wrap ((now : Int) - (t : Int)) = ((distN now t : Nat) : Int) := by
  rw [IntKind.wrap_u32]; unfold distN; omega
theorem wrap_add (t b : Nat) : IntKind.u32.wrap ((t : Int) + (b : Int)) = ((addN t b : Nat) : Int) := by
  rw [IntKind.wrap_u32]; unfold addN; omega

set_option maxHeartbeats 400000 in
theorem ticks_Age (now t : Nat) (hn : now < 4294967296) (ht : t < 4294967296) (w : World) :
    Calls Try.prog 121 #[.int .u32 (now : Int), .int .u32 (t : Int)] w fun e w' => e = .returned (.int .u32 (ageN now t : Nat)) ∧ w = w' := by
  obtain ⟨x, hd⟩ : ∃ x, distN now t = x := ⟨_, rfl⟩
  have hw := wrap_dist hn ht
  have hx := distN_lt now t
  have hi := @ageN_in now t
  have ho := @ageN_out now t
  rw [hd] at hw hx hi ho
  clear hd
  by_cases h : ¬ 2147483648 ≤ (x : Int)
  · rw [hi (by omega)]
    have hx' : ¬ 4294967296 ≤ (x : Int) := by omega
    clear hi ho hx
    go_enter Try.func121, Try.ntmps121
    go_wp2
    go_ret
    exact ⟨rfl, rfl⟩
  · rw [ho (by omega)]
    have hx' : ¬ 4294967296 ≤ (x : Int) := by omega
    replace h := Decidable.not_not.1 h
    clear hi ho hx
    go_enter Try.func121, Try.ntmps121
    go_wp2
    go_ret
    exact ⟨rfl, rfl⟩
set_option maxHeartbeats 400000 in
theorem ticks_Old (now t lim : Nat) (hn : now < 4294967296) (ht : t < 4294967296) (w : World) :
    Calls Try.prog 107 #[.int .u32 (now : Int), .int .u32 (t : Int), .int .u32 (lim : Int)] w fun e w' => e = .returned (.bool (oldB now t lim)) ∧ w = w' := by
  have hA := Lib.hid fun W => ticks_Age now t hn ht W
  unfold oldB
  generalize ageN now t = x at *
  go_enter Try.func107, Try.ntmps107
  go_wp2_with fail
  refine (hA.out _).mono ?_
  rintro e w1 ⟨rfl, rfl⟩
  go_wp2
  go_ret
  exact ⟨ret_bool (by simp), rfl⟩
end
section
open Go.RowKit

/-- An entry, or none. -/
structure Pl where
  used : Bool
  e : En
deriving DecidableEq
def pl0 : Pl := ⟨false, en0⟩
def Pl.ok (x : Pl) : Prop := x.e.ok
def Pl.cells (x : Pl) : List Value := [.bool x.used, .int .i64 x.e.vid, .int .u64 (x.e.mac : Nat), .int .i64 x.e.port, .bool x.e.st, .int .u32 (x.e.stamp : Nat)]
def plc : List Pl → List Value
  | [] => []
  | x :: l => x.cells ++ plc l
theorem plc_length : ∀ l : List Pl, (plc l).length = l.length * 6
  | [] => rfl
  | x :: l => by
    have := plc_length l
    simp [plc, Pl.cells, this]
    omega
theorem plc_append : ∀ a b : List Pl, plc (a ++ b) = plc a ++ plc b
  | [], b => rfl
  | x :: a, b => by simp [plc, plc_append a b]
theorem plc_at : ∀ (l : List Pl) (j f : Nat), f < 6 → (plc l)[j * 6 + f]? = (l[j]?).bind fun x => x.cells[f]?
  | [], j, f, _ => by simp [plc]
  | x :: l, 0, f, h => by
    rw [plc, List.getElem?_append_left (by simp [Pl.cells]; omega)]
    simp
  | x :: l, j + 1, f, h => by
    have := plc_at l j f h
    rw [plc, List.getElem?_append_right (by simp [Pl.cells]; omega)]
    have e : (j + 1) * 6 + f - x.cells.length = j * 6 + f := by simp [Pl.cells]; omega
    rw [e, this]
    simp
theorem plc_one (l : List Pl) : ∀ u ∈ plc l, u.oneCell' = true := by
  induction l with
  | nil => simp [plc]
  | cons x l ih =>
    intro u hu
    rw [plc, List.mem_append] at hu
    rcases hu with h | h
    · simp [Pl.cells] at h
      rcases h with rfl | rfl | rfl | rfl | rfl | rfl <;> rfl
    · exact ih u h
theorem pl_ok {l : List Pl} (h : ∀ x ∈ l, x.ok) (k : Nat) : (l.getD k pl0).ok := by
  rw [List.getD_eq_getElem?_getD]
  rcases Nat.lt_or_ge k l.length with hk | hk
  · rw [List.getElem?_eq_getElem hk]; exact h _ (List.getElem_mem hk)
  · rw [List.getElem?_eq_none hk]
    simp [Pl.ok, En.ok, pl0, en0]
/-- The cells of such a row. -/
def plHolds (w : World) (b o : Nat) (x : Pl) : Prop :=
  w.cell? ⟨b, o, none⟩ = some (.bool x.used) ∧ w.cell? ⟨b, o + 1, none⟩ = some (.int .i64 x.e.vid) ∧ w.cell? ⟨b, o + 2, none⟩ = some (.int .u64 (x.e.mac : Nat)) ∧ w.cell? ⟨b, o + 3, none⟩ = some (.int .i64 x.e.port) ∧ w.cell? ⟨b, o + 4, none⟩ = some (.bool x.e.st) ∧ w.cell? ⟨b, o + 5, none⟩ = some (.int .u32 (x.e.stamp : Nat))
theorem Sl.plAt {w : World} {B n : Nat} {v : Value} {l : List Pl} (h : Sl w B 6 v n (plc l)) (hn : 0 < n) :
    ∃ b off cap, v = .slice (some ⟨b, off, none⟩) n cap ∧ n ≤ cap ∧ cap ≤ maxLen ∧ b < B ∧ l.length = n ∧ ∀ j, j < n → plHolds w b (off + j * 6) (l.getD j pl0) := by
  have hl := h.len
  rw [plc_length] at hl
  obtain ⟨b, off, cap, rfl, h1, h2, h3, h4⟩ := h.at_ hn
  refine ⟨b, off, cap, rfl, h1, h2, h3, by omega, fun j hj => ?_⟩
  have hjl : j < l.length := by omega
  have a0 := h4 (j * 6 + 0) (by omega)
  have a1 := h4 (j * 6 + 1) (by omega)
  have a2 := h4 (j * 6 + 2) (by omega)
  have a3 := h4 (j * 6 + 3) (by omega)
  have a4 := h4 (j * 6 + 4) (by omega)
  have a5 := h4 (j * 6 + 5) (by omega)
  rw [plc_at l j _ (by omega), List.getElem?_eq_getElem hjl] at a0 a1 a2 a3 a4 a5
  simp only [List.getD_eq_getElem?_getD, List.getElem?_eq_getElem hjl, Option.getD_some]
  exact ⟨a0, a1, a2, a3, a4, a5⟩
theorem Sl.plLen {w : World} {B n : Nat} {v : Value} {l : List Pl} (h : Sl w B 6 v n (plc l)) : l.length = n := by
  have hl := h.len
  rw [plc_length] at hl
  omega
/-- Places as a function of their numbers. -/
def rowP (f : Nat → Pl) (j : Nat) : Value := (f (j / 6)).cells.getD (j % 6) (.bool false)
def updP (f : Nat → Pl) (k : Nat) (p : Pl) (i : Nat) : Pl := if i = k then p else f i
theorem rowP_at (f : Nat → Pl) (k c : Nat) (hc : c < 6) : rowP f (k * 6 + c) = (f k).cells.getD c (.bool false) := by
  unfold rowP
  rw [show (k * 6 + c) / 6 = k by omega, show (k * 6 + c) % 6 = c by omega]
theorem rowP_holds {w : World} {g M : Nat} {t : TypeId} {f : Nat → Pl} (h : w.rowIs g t (M * 6) (rowP f)) {k : Nat} (hk : k < M) : plHolds w g (k * 6) (f k) := by
  have q : ∀ c, c < 6 → w.cell? ⟨g, k * 6 + c, none⟩ = some ((f k).cells.getD c (.bool false)) := fun c hc => by
    rw [h.cell (show k * 6 + c < M * 6 by omega), rowP_at f k c hc]
  exact ⟨q 0 (by omega), q 1 (by omega), q 2 (by omega), q 3 (by omega), q 4 (by omega), q 5 (by omega)⟩
/-- A place stored. -/
theorem rowP_upd (f : Nat → Pl) (G : Nat → Value) (k : Nat) (u : Bool) (v : Int) (m : Nat) (p : Int) (st : Bool) (s : Nat) (i : Nat) (hG : G i = rowP f i) :
    (if i = k * 6 + 5 then Value.int .u32 (s : Nat) else if i = k * 6 + 4 then .bool st else if i = k * 6 + 3 then .int .i64 p else if i = k * 6 + 2 then .int .u64 (m : Nat) else if i = k * 6 + 1 then .int .i64 v else if i = k * 6 then .bool u else G i) = rowP (updP f k ⟨u, ⟨v, m, p, st, s⟩⟩) i := by
  have e : i = i / 6 * 6 + i % 6 := by omega
  have hm : i % 6 < 6 := by omega
  by_cases hik : i / 6 = k
  · have hr : rowP (updP f k ⟨u, ⟨v, m, p, st, s⟩⟩) i = (Pl.cells ⟨u, ⟨v, m, p, st, s⟩⟩).getD (i % 6) (.bool false) := by
      unfold rowP updP; rw [if_pos hik]
    rw [hr]
    rcases (show i % 6 = 0 ∨ i % 6 = 1 ∨ i % 6 = 2 ∨ i % 6 = 3 ∨ i % 6 = 4 ∨ i % 6 = 5 by omega) with h | h | h | h | h | h <;> rw [h] <;> simp only [Pl.cells, List.getD_cons_zero, List.getD_cons_succ]
    · rw [if_neg (by omega), if_neg (by omega), if_neg (by omega), if_neg (by omega), if_neg (by omega), if_pos (by omega)]
    · rw [if_neg (by omega), if_neg (by omega), if_neg (by omega), if_neg (by omega), if_pos (by omega)]
    · rw [if_neg (by omega), if_neg (by omega), if_neg (by omega), if_pos (by omega)]
    · rw [if_neg (by omega), if_neg (by omega), if_pos (by omega)]
    · rw [if_neg (by omega), if_pos (by omega)]
    · rw [if_pos (by omega)]
  · rw [if_neg (by omega), if_neg (by omega), if_neg (by omega), if_neg (by omega), if_neg (by omega), if_neg (by omega), hG]
    unfold rowP updP
    rw [if_neg hik]
theorem rowP_store {w : World} {g M : Nat} {t : TypeId} {f : Nat → Pl} (h : w.rowIs g t (M * 6) (rowP f)) (k : Nat) (u : Bool) (v : Int) (m : Nat) (p : Int) (st : Bool) (s : Nat) :
    ((((((w.setCell ⟨g, k * 6, none⟩ (.bool u)).setCell ⟨g, k * 6 + 1, none⟩ (.int .i64 v)).setCell ⟨g, k * 6 + 2, none⟩ (.int .u64 (m : Nat))).setCell ⟨g, k * 6 + 3, none⟩ (.int .i64 p)).setCell ⟨g, k * 6 + 4, none⟩ (.bool st)).setCell ⟨g, k * 6 + 5, none⟩ (.int .u32 (s : Nat))).rowIs g t (M * 6) (rowP (updP f k ⟨u, ⟨v, m, p, st, s⟩⟩)) :=
  ((((((h.set _ _).set _ _).set _ _).set _ _).set _ _).set _ _).congr fun i _ => rowP_upd f (rowP f) k u v m p st s i rfl
/-- As a list. -/
def listP (f : Nat → Pl) (n : Nat) : List Pl := (List.range n).map f
theorem listP_length (f : Nat → Pl) (n : Nat) : (listP f n).length = n := by simp [listP]
theorem listP_at (f : Nat → Pl) {n k : Nat} (h : k < n) : (listP f n).getD k pl0 = f k := by
  simp [listP, List.getD_eq_getElem?_getD, h]
theorem Sl.of_rowP {w : World} {g M : Nat} {t : TypeId} {f : Nat → Pl} (h : w.rowIs g t (M * 6) (rowP f)) (hM : M ≤ maxLen) : Sl w w.heap.size 6 (.slice (some ⟨g, 0, none⟩) M M) M (plc (listP f M)) := by
  refine ⟨by rw [plc_length, listP_length], _, M, rfl, Nat.le_refl _, hM, fun _ => ⟨g, 0, rfl, h.lt, fun j hj => ?_⟩⟩
  have e : j = j / 6 * 6 + j % 6 := by omega
  have hv : (plc (listP f M))[j]? = ((listP f M)[j / 6]?).bind fun x => x.cells[j % 6]? := by
    have := plc_at (listP f M) (j / 6) (j % 6) (by omega)
    rw [← e] at this
    exact this
  rw [hv, Nat.zero_add, h.cell hj]
  have hq : j / 6 < M := by omega
  simp only [listP, List.getElem?_map, List.getElem?_range hq, Option.map_some, Option.bind_some]
  unfold rowP
  have hm : j % 6 < 6 := by omega
  rw [List.getD_eq_getElem?_getD, List.getElem?_eq_getElem (show j % 6 < (f (j / 6)).cells.length by simpa [Pl.cells] using hm)]
  rfl
/-- The first place below k at which f holds; -1: none. -/
def firstJ (f : Nat → Bool) : Nat → Int
  | 0 => -1
  | k + 1 => if 0 ≤ firstJ f k then firstJ f k else if f k = true then (k : Int) else -1
theorem firstJ_none (f : Nat → Bool) : ∀ k, (∀ i, i < k → f i = false) → firstJ f k = -1
  | 0, _ => rfl
  | k + 1, h => by
    rw [firstJ, firstJ_none f k fun i hi => h i (by omega), if_neg (by omega), h k (by omega)]
    rfl
theorem firstJ_at (f : Nat → Bool) (k : Nat) (h : ∀ i, i < k → f i = false) (hk : f k = true) : ∀ n, k < n → firstJ f n = (k : Int)
  | 0, h0 => by omega
  | n + 1, h0 => by
    rw [firstJ]
    rcases Nat.lt_or_ge k n with h1 | h1
    · rw [firstJ_at f k h hk n h1, if_pos (by omega)]
    · obtain rfl : k = n := by omega
      rw [firstJ_none f k h, if_neg (by omega), if_pos hk]
theorem firstJ_bd (f : Nat → Bool) : ∀ k, -1 ≤ firstJ f k ∧ firstJ f k < k
  | 0 => by simp [firstJ]
  | k + 1 => by
    have := firstJ_bd f k
    rw [firstJ]
    split
    · omega
    · split <;> omega
theorem firstJ_holds (f : Nat → Bool) : ∀ k, 0 ≤ firstJ f k → f (firstJ f k).toNat = true
  | 0 => by simp [firstJ]
  | k + 1 => by
    intro h
    rw [firstJ] at h ⊢
    split
    · rename_i h1; exact firstJ_holds f k h1
    · rename_i h1
      rw [if_neg h1] at h
      split
      · rename_i h2; simpa using h2
      · rename_i h2; rw [if_neg h2] at h; omega
theorem firstJ_miss (f : Nat → Bool) : ∀ k, firstJ f k < 0 → ∀ i, i < k → f i = false
  | 0 => by intro _ i hi; omega
  | k + 1 => by
    intro h i hi
    rw [firstJ] at h
    split at h
    · omega
    · rename_i h1
      split at h
      · omega
      · rename_i h2
        rcases Nat.lt_or_ge i k with h3 | h3
        · exact firstJ_miss f k (by omega) i h3
        · obtain rfl : i = k := by omega
          simpa using h2
/-- The first of the greatest among those that count; -1: none counts. -/
def bestF (ok : Nat → Bool) (f : Nat → Nat) : Nat → Int
  | 0 => -1
  | k + 1 => if ok k = true ∧ (bestF ok f k < 0 ∨ f (bestF ok f k).toNat < f k) then (k : Int) else bestF ok f k
theorem bestF_bd (ok : Nat → Bool) (f : Nat → Nat) : ∀ k, -1 ≤ bestF ok f k ∧ bestF ok f k < k
  | 0 => by simp [bestF]
  | k + 1 => by
    have := bestF_bd ok f k
    rw [bestF]
    split <;> omega

/-- What stands at a place, in a list of places; places of one's own; where a key stands. -/
def atP (l : List Pl) (i : Nat) : Pl := l.getD i pl0
def ownP (p : Pl) : Pl := if p.used = true then p else pl0
def ownF (l : List Pl) (i : Nat) : Pl := ownP (atP l i)
def keyF (f : Nat → Pl) (v : Int) (m : Nat) (i : Nat) : Bool := (f i).used && ((f i).e.vid == v && (f i).e.mac == m)
def findF (f : Nat → Pl) (v : Int) (m n : Nat) : Int := firstJ (keyF f v m) n
/-- The place for a new entry, and what comes of it. -/
def roomF (f : Nat → Pl) (now n : Nat) : Int × Nat :=
  if 0 ≤ firstJ (fun i => !(f i).used) n then (firstJ (fun i => !(f i).used) n, 3)
  else if bestF (fun i => !(f i).e.st) (fun i => ageN now (f i).e.stamp) n < 0 then (-1, 5)
  else (bestF (fun i => !(f i).e.st) (fun i => ageN now (f i).e.stamp) n, 4)
def againE (o e : En) : Nat := if o = e ∨ (o.st = true ∧ e.st = false) then 0 else if e.st = false ∧ o.port = e.port then 1 else 2
/-- An entry put: what is then, and what came of it. -/
def putF (f : Nat → Pl) (e : En) (now n : Nat) : (Nat → Pl) × Nat :=
  if rightE e = false then (f, 5)
  else if findF f e.vid e.mac n < 0 then
    (if (roomF f now n).1 < 0 then (f, 5) else (updP f (roomF f now n).1.toNat ⟨true, e⟩, (roomF f now n).2))
  else if againE (f (findF f e.vid e.mac n).toNat).e e = 0 then (f, 0)
  else (updP f (findF f e.vid e.mac n).toNat ⟨true, e⟩, againE (f (findF f e.vid e.mac n).toNat).e e)
def dropF (f : Nat → Pl) (v : Int) (m n : Nat) : (Nat → Pl) × Bool :=
  if findF f v m n < 0 then (f, false)
  else if (f (findF f v m n).toNat).e.st = true then (updP f (findF f v m n).toNat pl0, true) else (f, false)
/-- Those that go are gone; how many they were. -/
def goesF (f : Nat → Pl) (g : En → Bool) (i : Nat) : Bool := (f i).used && !(f i).e.st && g (f i).e
def sweepF (f : Nat → Pl) (g : En → Bool) (i : Nat) : Pl := if goesF f g i = true then pl0 else f i
def goneF (f : Nat → Pl) (g : En → Bool) : Nat → Nat
  | 0 => 0
  | k + 1 => goneF f g k + (if goesF f g k = true then 1 else 0)
theorem goneF_le (f : Nat → Pl) (g : En → Bool) : ∀ k, goneF f g k ≤ k
  | 0 => Nat.le_refl _
  | k + 1 => by
    have := goneF_le f g k
    rw [goneF]
    split <;> omega
end
section
open Go.RowKit

theorem kp1 {w w' : World} {b o0 : Nat} {v0 : Value} (h : w.cell? ⟨b, o0, none⟩ = some v0) (hk : ∀ p : Addr, p.block = b → w'.cell? p = w.cell? p) :
    w'.cell? ⟨b, o0, none⟩ = some v0 :=
  (hk _ rfl).trans h
theorem kp2 {w w' : World} {b o0 o1 : Nat} {v0 v1 : Value} (h : w.cell? ⟨b, o0, none⟩ = some v0 ∧ w.cell? ⟨b, o1, none⟩ = some v1) (hk : ∀ p : Addr, p.block = b → w'.cell? p = w.cell? p) :
    w'.cell? ⟨b, o0, none⟩ = some v0 ∧ w'.cell? ⟨b, o1, none⟩ = some v1 :=
  ⟨(hk _ rfl).trans h.1, (hk _ rfl).trans h.2⟩
theorem kp3 {w w' : World} {b o0 o1 o2 : Nat} {v0 v1 v2 : Value} (h : w.cell? ⟨b, o0, none⟩ = some v0 ∧ w.cell? ⟨b, o1, none⟩ = some v1 ∧ w.cell? ⟨b, o2, none⟩ = some v2) (hk : ∀ p : Addr, p.block = b → w'.cell? p = w.cell? p) :
    w'.cell? ⟨b, o0, none⟩ = some v0 ∧ w'.cell? ⟨b, o1, none⟩ = some v1 ∧ w'.cell? ⟨b, o2, none⟩ = some v2 :=
  ⟨(hk _ rfl).trans h.1, (hk _ rfl).trans h.2.1, (hk _ rfl).trans h.2.2⟩
theorem kp4 {w w' : World} {b o0 o1 o2 o3 : Nat} {v0 v1 v2 v3 : Value} (h : w.cell? ⟨b, o0, none⟩ = some v0 ∧ w.cell? ⟨b, o1, none⟩ = some v1 ∧ w.cell? ⟨b, o2, none⟩ = some v2 ∧ w.cell? ⟨b, o3, none⟩ = some v3) (hk : ∀ p : Addr, p.block = b → w'.cell? p = w.cell? p) :
    w'.cell? ⟨b, o0, none⟩ = some v0 ∧ w'.cell? ⟨b, o1, none⟩ = some v1 ∧ w'.cell? ⟨b, o2, none⟩ = some v2 ∧ w'.cell? ⟨b, o3, none⟩ = some v3 :=
  ⟨(hk _ rfl).trans h.1, (hk _ rfl).trans h.2.1, (hk _ rfl).trans h.2.2.1, (hk _ rfl).trans h.2.2.2⟩
theorem kp5 {w w' : World} {b o0 o1 o2 o3 o4 : Nat} {v0 v1 v2 v3 v4 : Value} (h : w.cell? ⟨b, o0, none⟩ = some v0 ∧ w.cell? ⟨b, o1, none⟩ = some v1 ∧ w.cell? ⟨b, o2, none⟩ = some v2 ∧ w.cell? ⟨b, o3, none⟩ = some v3 ∧ w.cell? ⟨b, o4, none⟩ = some v4) (hk : ∀ p : Addr, p.block = b → w'.cell? p = w.cell? p) :
    w'.cell? ⟨b, o0, none⟩ = some v0 ∧ w'.cell? ⟨b, o1, none⟩ = some v1 ∧ w'.cell? ⟨b, o2, none⟩ = some v2 ∧ w'.cell? ⟨b, o3, none⟩ = some v3 ∧ w'.cell? ⟨b, o4, none⟩ = some v4 :=
  ⟨(hk _ rfl).trans h.1, (hk _ rfl).trans h.2.1, (hk _ rfl).trans h.2.2.1, (hk _ rfl).trans h.2.2.2.1, (hk _ rfl).trans h.2.2.2.2⟩
theorem kp6 {w w' : World} {b o0 o1 o2 o3 o4 o5 : Nat} {v0 v1 v2 v3 v4 v5 : Value} (h : w.cell? ⟨b, o0, none⟩ = some v0 ∧ w.cell? ⟨b, o1, none⟩ = some v1 ∧ w.cell? ⟨b, o2, none⟩ = some v2 ∧ w.cell? ⟨b, o3, none⟩ = some v3 ∧ w.cell? ⟨b, o4, none⟩ = some v4 ∧ w.cell? ⟨b, o5, none⟩ = some v5) (hk : ∀ p : Addr, p.block = b → w'.cell? p = w.cell? p) :
    w'.cell? ⟨b, o0, none⟩ = some v0 ∧ w'.cell? ⟨b, o1, none⟩ = some v1 ∧ w'.cell? ⟨b, o2, none⟩ = some v2 ∧ w'.cell? ⟨b, o3, none⟩ = some v3 ∧ w'.cell? ⟨b, o4, none⟩ = some v4 ∧ w'.cell? ⟨b, o5, none⟩ = some v5 :=
  ⟨(hk _ rfl).trans h.1, (hk _ rfl).trans h.2.1, (hk _ rfl).trans h.2.2.1, (hk _ rfl).trans h.2.2.2.1, (hk _ rfl).trans h.2.2.2.2.1, (hk _ rfl).trans h.2.2.2.2.2⟩
theorem kp7 {w w' : World} {b o0 o1 o2 o3 o4 o5 o6 : Nat} {v0 v1 v2 v3 v4 v5 v6 : Value} (h : w.cell? ⟨b, o0, none⟩ = some v0 ∧ w.cell? ⟨b, o1, none⟩ = some v1 ∧ w.cell? ⟨b, o2, none⟩ = some v2 ∧ w.cell? ⟨b, o3, none⟩ = some v3 ∧ w.cell? ⟨b, o4, none⟩ = some v4 ∧ w.cell? ⟨b, o5, none⟩ = some v5 ∧ w.cell? ⟨b, o6, none⟩ = some v6) (hk : ∀ p : Addr, p.block = b → w'.cell? p = w.cell? p) :
    w'.cell? ⟨b, o0, none⟩ = some v0 ∧ w'.cell? ⟨b, o1, none⟩ = some v1 ∧ w'.cell? ⟨b, o2, none⟩ = some v2 ∧ w'.cell? ⟨b, o3, none⟩ = some v3 ∧ w'.cell? ⟨b, o4, none⟩ = some v4 ∧ w'.cell? ⟨b, o5, none⟩ = some v5 ∧ w'.cell? ⟨b, o6, none⟩ = some v6 :=
  ⟨(hk _ rfl).trans h.1, (hk _ rfl).trans h.2.1, (hk _ rfl).trans h.2.2.1, (hk _ rfl).trans h.2.2.2.1, (hk _ rfl).trans h.2.2.2.2.1, (hk _ rfl).trans h.2.2.2.2.2.1, (hk _ rfl).trans h.2.2.2.2.2.2⟩
theorem kp8 {w w' : World} {b o0 o1 o2 o3 o4 o5 o6 o7 : Nat} {v0 v1 v2 v3 v4 v5 v6 v7 : Value} (h : w.cell? ⟨b, o0, none⟩ = some v0 ∧ w.cell? ⟨b, o1, none⟩ = some v1 ∧ w.cell? ⟨b, o2, none⟩ = some v2 ∧ w.cell? ⟨b, o3, none⟩ = some v3 ∧ w.cell? ⟨b, o4, none⟩ = some v4 ∧ w.cell? ⟨b, o5, none⟩ = some v5 ∧ w.cell? ⟨b, o6, none⟩ = some v6 ∧ w.cell? ⟨b, o7, none⟩ = some v7) (hk : ∀ p : Addr, p.block = b → w'.cell? p = w.cell? p) :
    w'.cell? ⟨b, o0, none⟩ = some v0 ∧ w'.cell? ⟨b, o1, none⟩ = some v1 ∧ w'.cell? ⟨b, o2, none⟩ = some v2 ∧ w'.cell? ⟨b, o3, none⟩ = some v3 ∧ w'.cell? ⟨b, o4, none⟩ = some v4 ∧ w'.cell? ⟨b, o5, none⟩ = some v5 ∧ w'.cell? ⟨b, o6, none⟩ = some v6 ∧ w'.cell? ⟨b, o7, none⟩ = some v7 :=
  ⟨(hk _ rfl).trans h.1, (hk _ rfl).trans h.2.1, (hk _ rfl).trans h.2.2.1, (hk _ rfl).trans h.2.2.2.1, (hk _ rfl).trans h.2.2.2.2.1, (hk _ rfl).trans h.2.2.2.2.2.1, (hk _ rfl).trans h.2.2.2.2.2.2.1, (hk _ rfl).trans h.2.2.2.2.2.2.2⟩
end
section
open Go.RowKit

/-- 'make([]T, k)'. -/
theorem run_mkFull {P : Program} (w : World) {t e : TypeId} {z : Value} {size bytes : Nat} (hT : ST P t e z size bytes) (k : Nat) (hk : bytes * k ≤ 281474976710656) :
    (Instr.makeSlice t (.int .i64 (k : Int)) (.int .i64 (k : Int))).run P w = .ok (.slice (some ⟨w.heap.size, 0, none⟩) k k) (w.alloc (.cells (mkC z size k) e)) := by
  obtain ⟨i, ht, hi, hz, hsz, hby, hzs, hs0, hb0⟩ := hT
  have h1 : k ≤ bytes * k := Nat.le_mul_of_pos_left _ hb0
  have h2 : (i.bytes : Int) * (k : Int) ≤ 281474976710656 := by
    have h3 : ((bytes * k : Nat) : Int) ≤ 281474976710656 := by omega
    rw [hby]
    rwa [Int.natCast_mul] at h3
  have := run_make (P := P) w t e i z ht hi hz .i64 .i64 (k : Int) (k : Int) (by omega) (Int.le_refl _) h2 (by omega)
  rw [hsz] at this
  exact this
theorem own_mkFull_at {w : World} {B g k : Nat} {z : Value} {e : TypeId} (hz : z.cells = #[z]) (hg : w.heap.size = g) (hB : B ≤ g) (hk : k ≤ maxLen) : (w.alloc (.cells (mkC z 1 k) e)).ownsRow B e 1 (.slice (some ⟨g, 0, none⟩) k k) k (List.replicate k z) := by
  have := own_lit_at (w := w) (B := B) (e := e) (cs := mkC z 1 k) (n := k) hg hB (by rw [mkC_size, Nat.mul_one]) hk
  unfold mkC at this ⊢
  rw [Nat.mul_one, hz, toList_madeCells_one] at this
  rw [Nat.mul_one, hz]
  exact this
theorem Sl.mkFull_at {w : World} {g k : Nat} {z : Value} {e : TypeId} (hz : z.cells = #[z]) (hg : w.heap.size = g) (hk : k ≤ maxLen) : Sl (w.alloc (.cells (mkC z 1 k) e)) (g + 1) 1 (.slice (some ⟨g, 0, none⟩) k k) k (List.replicate k z) := by
  subst hg
  have := Sl.of_own (own_mkFull_at (w := w) (B := w.heap.size) (e := e) hz rfl (Nat.le_refl _) hk)
  simpa using this

/-- A store to the i-th element. -/
theorem Sl.set {w : World} {B n b off cap i : Nat} {xs : List Value} (h : Sl w B 1 (.slice (some ⟨b, off, none⟩) n cap) n xs) (hi : i < n) (u : Value) : Sl (w.setCell ⟨b, off + i, none⟩ u) B 1 (.slice (some ⟨b, off, none⟩) n cap) n (xs.set i u) := by
  obtain ⟨hl, A', cap', hv, h1, h2, h3⟩ := h
  injection hv with e1 _ e2
  subst e1 e2
  refine ⟨by rw [List.length_set]; exact hl, _, cap, rfl, h1, h2, fun h0 => ?_⟩
  obtain ⟨b', off', hA, hB, hc⟩ := h3 h0
  injection hA with hA
  injection hA with e3 e4
  subst e3 e4
  refine ⟨b, off, rfl, hB, fun j hj => ?_⟩
  by_cases hij : i = j
  · subst hij
    have hx := hc i hj
    have hsome : xs[i]? = some (xs[i]'(by omega)) := List.getElem?_eq_getElem _
    rw [World.cell?_setCell_same _ _ _ (hx.trans hsome), List.getElem?_set_self (by omega)]
  · rw [World.cell?_setCell_other _ _ _ _ (by simp), hc j hj, List.getElem?_set_ne hij]
theorem bv_set (l : List Nat) (i x : Nat) : (bv l).set i (.int .u8 (x : Int)) = bv (l.set i x) := by simp [bv, List.map_set]
theorem bv_zeros (k : Nat) : List.replicate k (Value.int .u8 0) = bv (List.replicate k 0) := by simp [bv]
end
section
open Go.RowKit

theorem heap_setCell_far (w : World) (p : Addr) (v : Value) {k : Nat} (h : k ≠ p.block) : (w.setCell p v).heap[k]? = w.heap[k]? := by
  unfold World.setCell
  simp only [Array.getElem?_modify]
  rw [if_neg (fun e => h e.symm)]
theorem heap_setCells_far (b : Nat) : ∀ (vs : List Value) (o : Nat) (w : World) {k : Nat}, k ≠ b → (w.setCells b o vs).heap[k]? = w.heap[k]?
  | [], _, _, _, _ => rfl
  | v :: r, o, w, _, h => (heap_setCells_far b r (o + 1) _ h).trans (heap_setCell_far w ⟨b, o, none⟩ v h)
theorem below_setCells {B b : Nat} (hB : B ≤ b) : ∀ (vs : List Value) (o : Nat) (w0 w : World), Below B w0 w → Below B w0 (w.setCells b o vs)
  | [], _, _, _, h => h
  | v :: r, o, w0, _, h => below_setCells hB r (o + 1) w0 _ (h.setCell hB v)
theorem size_setCells (b : Nat) : ∀ (vs : List Value) (o : Nat) (w : World), (w.setCells b o vs).heap.size = w.heap.size
  | [], _, _ => rfl
  | v :: r, o, w => (size_setCells b r (o + 1) _).trans (by simp)
theorem own_heap {w w' : World} {base size n : Nat} {e : TypeId} {v : Value} {xs : List Value} (h : w.ownsRow base e size v n xs) (hk : ∀ k, base ≤ k → w'.heap[k]? = w.heap[k]?) : w'.ownsRow base e size v n xs := by
  refine ⟨h.1, ?_⟩
  rcases h.2 with hn | ⟨g, cap, cur, hv, hg, hh, r⟩
  · exact .inl hn
  · exact .inr ⟨g, cap, cur, hv, hg, (hk g hg).trans hh, r⟩
/-- The world behind a struct that was stored. -/
structure Stored (w : World) (b o : Nat) (vs : List Value) (w' : World) : Prop where
  cells : ∀ j v, vs[j]? = some v → w'.cell? ⟨b, o + j, none⟩ = some v
  far : ∀ k, k ≠ b → w'.heap[k]? = w.heap[k]?
  size : w'.heap.size = w.heap.size
  below : ∀ B, B ≤ b → Below B w w'
  marks : ∀ p, w'.frozen? p = w.frozen? p
theorem Stored.mk_ (w : World) (b o : Nat) (vs : List Value) (ht : w.there b o vs.length) : Stored w b o vs (w.setCells b o vs) :=
  ⟨World.rangeAt_setCells_same w b o vs ht, fun _ h => heap_setCells_far b vs o w h, size_setCells b vs o w, fun _ hB => below_setCells hB vs o w w (Below.refl _ _), fun p => World.frozen?_setCells b vs o w p⟩
section
variable {P : Program}
theorem step_store {ops : Array Oper} {op : Oper} {a : Act} {w : World} {K : Act → World → Prop} {Q : Exit → Act → World → Prop} {E : Prop} (hgd : op.guard = none) (ty : TypeId) (x y : Operand) (ho : op.op = .store ty x y)
    (b o : Nat) (cells : Array Value) (hx : a.eval x = .pointer (some ⟨b, o, none⟩)) (hy : a.eval y = .agg cells)
    (ht : w.there b o cells.size) (hi : (P.info? ty).map (·.size) = some cells.size) (h1 : cells.all (·.oneCell') = true)
    (h : ∀ w', Stored w b o cells.toList w' → K (a.put op.dst undef) w') : if Region.wanted op (yielded ops a.tmps) = true then Oper.wp P op a w K Q else E := by
  have hw : Region.wanted op (yielded ops a.tmps) = true := by simp [Region.wanted, hgd]
  rw [if_pos hw]
  exact wp_store_mid ty x y ho b o cells hx hy ht hi h1 (h _ (Stored.mk_ w b o cells.toList (by simpa using ht)))
theorem wpList_store {ops : Array Oper} {rest : List Oper} {op : Oper} {a : Act} {w : World} {Q : Exit → Act → World → Prop} (hgd : op.guard = none) (ty : TypeId) (x y : Operand) (ho : op.op = .store ty x y)
    (b o : Nat) (cells : Array Value) (hx : a.eval x = .pointer (some ⟨b, o, none⟩)) (hy : a.eval y = .agg cells)
    (ht : w.there b o cells.size) (hi : (P.info? ty).map (·.size) = some cells.size) (h1 : cells.all (·.oneCell') = true)
    (h : ∀ w', Stored w b o cells.toList w' → wpList P ops Q rest (a.put op.dst undef) w') : wpList P ops Q (op :: rest) a w :=
  wpList_store_mid hgd ty x y ho b o cells hx hy ht hi h1 (h _ (Stored.mk_ w b o cells.toList (by simpa using ht)))
end
end
section
open Go.RowKit Go.WideShapes Go.ChangeShapes

/-- Numbers of a kind as values. -/
def kv (k : IntKind) (l : List Int) : List Value := l.map fun n => .int k n
def uv (l : List Nat) : List Value := l.map fun (n : Nat) => .int .u32 (n : Int)
theorem kv_length (k : IntKind) (l : List Int) : (kv k l).length = l.length := by simp [kv]
theorem uv_length (l : List Nat) : (uv l).length = l.length := by simp [uv]
theorem uv_kv (l : List Nat) : uv l = kv .u32 (l.map fun n : Nat => (n : Int)) := by simp [uv, kv]
theorem uv_take (l : List Nat) (k : Nat) : (uv l).take k = uv (l.take k) := by simp [uv, List.map_take]
theorem kv_take (κ : IntKind) (l : List Int) (k : Nat) : (kv κ l).take k = kv κ (l.take k) := by simp [kv, List.map_take]
theorem word_lt {l : List Nat} (h : ∀ x ∈ l, x < 4294967296) (k : Nat) : l.getD k 0 < 4294967296 := by
  rw [List.getD_eq_getElem?_getD]
  rcases Nat.lt_or_ge k l.length with hk | hk
  · rw [List.getElem?_eq_getElem hk]; exact h _ (List.getElem_mem hk)
  · rw [List.getElem?_eq_none hk]; simp
/-- The cells of such a slice. -/
theorem Sl.wordAt {w : World} {B n : Nat} {v : Value} {l : List Nat} (h : Sl w B 1 v n (uv l)) (hn : 0 < n) :
    ∃ b off cap, v = .slice (some ⟨b, off, none⟩) n cap ∧ n ≤ cap ∧ cap ≤ maxLen ∧ b < B ∧ l.length = n ∧ ∀ j, j < n → w.cell? ⟨b, off + j, none⟩ = some (.int .u32 ((l.getD j 0 : Nat) : Int)) := by
  have hl := h.len
  rw [uv_length, Nat.mul_one] at hl
  obtain ⟨b, off, cap, rfl, h1, h2, h3, h4⟩ := h.at_ hn
  refine ⟨b, off, cap, rfl, h1, h2, h3, hl, fun j hj => ?_⟩
  rw [h4 j (by omega)]
  have : j < l.length := by omega
  simp [uv, List.getD_eq_getElem?_getD, List.getElem?_eq_getElem this]

theorem nats_of_u32 : ∀ zs : List Int, (∀ n ∈ zs, (Lit.int .u32 n).wf = true) → ∃ l : List Nat, zs = l.map (fun n : Nat => (n : Int)) ∧ ∀ x ∈ l, x < 4294967296
  | [], _ => ⟨[], rfl, by simp⟩
  | z :: zs, h => by
    obtain ⟨l, rfl, hl⟩ := nats_of_u32 zs fun n hn => h n (by simp [hn])
    have := Go.bounds_u32 (h z (by simp))
    refine ⟨z.toNat :: l, ?_, ?_⟩
    · simp; omega
    · intro x hx
      rcases List.mem_cons.1 hx with rfl | hx
      · omega
      · exact hl x hx
section
variable {H : Type} {enc : TypeId × Value → H} {P : Program} {w : World} {held : Bool}
/-- A slice of numbers of one kind that came in. -/
theorem open_kinds {κ : IntKind} {r : Reach} {b0 : Nat} {t e : TypeId} {v : Value} {d : DataW H} {ps : List MemPlace} (ht : P.underlying t = some (.slice e)) (he : P.underlying e = some (.int κ)) (hc : P.cellsOf e = 1)
    (hval : Value.okWide P w r b0 t v) (hd : DataW.Trod enc P w 0 (fun _ => true) held t v d ps) :
    ∃ l : List Int, Sl w w.heap.size 1 v l.length (kv κ l) ∧ ∀ x ∈ l, (Lit.int κ x).wf = true := by
  obtain ⟨a, len, cap, rfl⟩ := okWide_slice ht hval
  obtain ⟨fuel, hf⟩ := hd
  rcases open_ints ht he hc hf with ⟨hcs, _⟩ | ⟨x, l, c, zs, hcs, _, hl, hm, hz, _, hcell, hwz⟩
  · simp [Value.cells] at hcs
    obtain ⟨rfl, rfl, rfl⟩ := hcs
    exact ⟨[], Sl.nil _ _ _, by simp⟩
  · simp [Value.cells] at hcs
    obtain ⟨rfl, rfl, rfl⟩ := hcs
    simp only [if_true] at hz
    have hlen : (zs.take len).length = len := by rw [List.length_take]; omega
    refine ⟨zs.take len, ?_, fun x hx => hwz x (List.mem_of_mem_take hx)⟩
    refine ⟨by simp [kv_length], some x, cap, by rw [hlen], by omega, hm, fun hn => ?_⟩
    obtain ⟨b, off, spot⟩ := x
    have h0 := hcell 0 (by omega)
    have hspot : spot = none := by simpa [Addr.add] using World.cell?_spot h0
    subst hspot
    refine ⟨b, off, rfl, World.block_lt_of_cell? w _ (by simpa [Addr.add] using h0), fun j hj => ?_⟩
    rw [hlen, Nat.mul_one] at hj
    have hj2 : j < zs.length := by omega
    have h1 := hcell j hj2
    have hadd : (⟨b, off, none⟩ : Addr).add j = ⟨b, off + j, none⟩ := by unfold Addr.add; split <;> simp_all
    rw [hadd] at h1
    rw [h1]
    simp [kv, List.getD_eq_getElem?_getD, List.getElem?_map, hj, List.getElem?_eq_getElem hj2]
theorem open_u32s {r : Reach} {b0 : Nat} {t e : TypeId} {v : Value} {d : DataW H} {ps : List MemPlace} (ht : P.underlying t = some (.slice e)) (he : P.underlying e = some (.int .u32)) (hc : P.cellsOf e = 1)
    (hval : Value.okWide P w r b0 t v) (hd : DataW.Trod enc P w 0 (fun _ => true) held t v d ps) :
    ∃ l : List Nat, Sl w w.heap.size 1 v l.length (uv l) ∧ ∀ x ∈ l, x < 4294967296 := by
  obtain ⟨zs, h, hz⟩ := open_kinds ht he hc hval hd
  obtain ⟨l, rfl, hl⟩ := nats_of_u32 zs hz
  rw [List.length_map] at h
  exact ⟨l, by rw [uv_kv]; exact h, hl⟩
theorem open_u32 {r : Reach} {b0 : Nat} {t : TypeId} {v : Value} {d : DataW H} {ps : List MemPlace} (ht : P.underlying t = some (.int .u32)) (hval : Value.okWide P w r b0 t v) (hd : DataW.Trod enc P w 0 (fun _ => true) held t v d ps) :
    ∃ n : Nat, v = .int .u32 (n : Int) ∧ n < 4294967296 := by
  obtain ⟨n, rfl, _, _, hw⟩ := open_int ht hval hd
  have := Go.bounds_u32 hw
  exact ⟨n.toNat, by congr 1; omega, by omega⟩
end
end
section
open Go.RowKit

theorem stInts : ST Try.prog 55 3 (.int .i64 0) 1 8 := ST.mk Try.underlying55 (by kernel_rfl) rfl (by omega) (by omega)
/-- A row that was made whole. -/
theorem rowIs_mk {w : World} {g M : Nat} {z : Value} {e : TypeId} (hz : z.cells = #[z]) (hg : w.heap.size = g) : (w.alloc (.cells (mkC z 1 M) e)).rowIs g e M (fun _ => z) := by
  subst hg
  unfold mkC
  rw [hz, Nat.mul_one]
  exact World.rowIs_made w z M e
theorem rowIs_own {w : World} {B g M : Nat} {e : TypeId} {f : Nat → Value} (h : w.rowIs g e M f) (hB : B ≤ g) (hM : M ≤ maxLen) : w.ownsRow B e 1 (.slice (some ⟨g, 0, none⟩) M M) M ((List.range M).map f) := by
  obtain ⟨cs, h1, h2, h3⟩ := h
  refine own_full h1 hB h2 hM ?_
  apply List.ext_getElem
  · simp [h2]
  · intro i hi1 hi2
    simp at hi1 hi2
    have := h3 i (by omega)
    rw [Array.getElem?_eq_getElem hi1] at this
    simp at this
    simp [this]
/-- A list of ints, as a row of the call's own. -/
def Ints (l : List Int) (w : World) (e : Ending) (w' : World) : Prop :=
  ∃ A cap, e = .returned (.slice A l.length cap) ∧ Sl w' w'.heap.size 1 (.slice A l.length cap) l.length (kv .i64 l) ∧ Below w.heap.size w w'
theorem Ints.nil (w w' : World) (h : Below w.heap.size w w') : Ints [] w (.returned (.slice none 0 0)) w' := ⟨none, 0, rfl, by simpa [kv] using Sl.nil _ _ _, h⟩
theorem Ints.row {w w' : World} {g M : Nat} {e : TypeId} {f : Nat → Int} {l : List Int} (h : w'.rowIs g e M (fun j => .int .i64 (f j))) (hl : l = (List.range M).map f) (hM : M ≤ maxLen) (hb : Below w.heap.size w w') :
    Ints l w (.returned (.slice (some ⟨g, 0, none⟩) M M)) w' := by
  have hlen : l.length = M := by rw [hl]; simp
  refine ⟨some ⟨g, 0, none⟩, M, by rw [hlen], ?_, hb⟩
  rw [hlen]
  have := Sl.of_own (rowIs_own h (Nat.zero_le _) hM)
  rw [hl]
  unfold kv
  rw [List.map_map]
  exact this
theorem kv_getElem? (κ : IntKind) (l : List Int) (k : Nat) (h : k < l.length) : (kv κ l)[k]? = some (.int κ (l.getD k 0)) := by
  simp [kv, List.getD_eq_getElem?_getD, List.getElem?_eq_getElem h]
theorem kv_append (κ : IntKind) (a b : List Int) : kv κ (a ++ b) = kv κ a ++ kv κ b := by simp [kv]

set_option maxHeartbeats 800000 in
theorem law3_IntsEq {l : List Int} {n : Nat} {u v : Value} {w : World} {B B' : Nat} (hu : Sl w B 1 u n (kv .i64 l)) (hv : Sl w B' 1 v n (kv .i64 l)) :
    Calls Try.prog 26 #[u, v] w (Quiet (.bool true) w) := by
  have hlen : l.length = n := by have := hu.len; rw [kv_length] at this; omega
  obtain ⟨_, A, cap, rfl, hA1, hA2, hA⟩ := hu
  obtain ⟨_, A', cap', rfl, hA1', hA2', hA'⟩ := hv
  unfold maxLen at hA2 hA2'
  have hne : ((n : Int) != (n : Int)) = false := by simp
  have HL := Lib.hid hlen
  have HA := Lib.hid hA
  have HA' := Lib.hid hA'
  clear hlen hA hA'
  go_enter Try.func26, Try.ntmps26
  go_wp2
  go_loopw [5] (fun i wr => ∃ k : Nat, k ≤ n ∧ i = .int .i64 k ∧ ∃ m, wr = w.drewN m) (fun i _ => n - (intOf i).toNat)
  case atStart => exact ⟨0, by omega, rfl, 0, rfl⟩
  case round =>
    obtain ⟨k, hk, rfl, m, rfl⟩ := hrel
    by_cases hlt : k < n
    · obtain ⟨b, off, rfl, _, hc⟩ := HA.out (by omega)
      obtain ⟨b', off', rfl, _, hc'⟩ := HA'.out (by omega)
      have hx := kv_getElem? .i64 l k (by have := HL.out; omega)
      have hcell := (hc k (by omega)).trans hx
      have hcell' := (hc' k (by omega)).trans hx
      clear hc hc' HA HA' hx
      have g0 : (0 : Int) ≤ (k : Int) := Int.natCast_nonneg _
      have g1 : (k : Int) < (n : Int) := by omega
      generalize l.getD k 0 = x at *
      go_wp2_with fail
      go_quiet (fail)
      go_wp2
      go_roundw
      case rel => exact ⟨k + 1, by omega, by go_num, _, (by first | rfl | exact World.drewN_drewN _ _ _)⟩
      case measure => simp [intOf]; omega
    · have : k = n := by omega
      subst this
      go_wp2
      go_ret
      exact ⟨rfl, _, rfl⟩
end
section
def rightSt (s : Int) : Bool := decide (0 ≤ s) && decide (s ≤ 4)
theorem rightSt_iff {s : Int} : rightSt s = true ↔ 0 ≤ s ∧ s ≤ 4 := by simp [rightSt]
theorem rightSt_no {s : Int} (h : ¬ (0 ≤ s ∧ s ≤ 4)) : rightSt s = false := by
  rw [Bool.eq_false_iff]; exact fun e => h (rightSt_iff.1 e)
def wordS (s : Int) (e : Nat) : Nat := if rightSt s then e * 256 + s.toNat else 0
theorem wordS_yes {s : Int} {e : Nat} (h : rightSt s = true) : wordS s e = e * 256 + s.toNat := if_pos h
theorem wordS_no {s : Int} {e : Nat} (h : rightSt s = false) : wordS s e = 0 := by unfold wordS; rw [h]; rfl
def okS (w : Nat) : Bool := decide (w < 1099511627776) && decide (w % 256 ≤ 4)
theorem okS_iff {w : Nat} : okS w = true ↔ w < 1099511627776 ∧ w % 256 ≤ 4 := by simp [okS]
theorem okS_no {w : Nat} (h : ¬ (w < 1099511627776 ∧ w % 256 ≤ 4)) : okS w = false := by
  rw [Bool.eq_false_iff]; exact fun e => h (okS_iff.1 e)
def stateW (w : Nat) : Nat := if okS w then w % 256 else 0
def epochW (w : Nat) : Nat := if okS w then w / 256 else 0
theorem or_8 (s e : Nat) (hs : s < 256) : s ||| e * 256 = e * 256 + s := by
  have := Nat.shiftLeft_add_eq_or_of_lt (i := 8) (b := s) (by simpa using hs) e
  rw [Nat.shiftLeft_eq] at this
  rw [Nat.or_comm]
  simpa using this.symm
theorem wordS_lt (s : Int) (e : Nat) (he : e < 4294967296) : wordS s e < 1099511627776 := by
  unfold wordS
  split
  · rename_i h
    have := rightSt_iff.1 h
    omega
  · omega
theorem okS_back {w : Nat} (h : okS w = true) : wordS (stateW w : Int) (epochW w) = w := by
  have h' := okS_iff.1 h
  unfold stateW epochW
  rw [if_pos h, if_pos h, wordS_yes (rightSt_iff.2 (by omega))]
  omega
theorem wordS_back {s : Int} {e : Nat} (h : rightSt s = true) (he : e < 4294967296) : okS (wordS s e) = true ∧ (stateW (wordS s e) : Int) = s ∧ epochW (wordS s e) = e := by
  have h' := rightSt_iff.1 h
  have h1 := wordS_yes (e := e) h
  have ho : okS (wordS s e) = true := okS_iff.2 (by rw [h1]; omega)
  refine ⟨ho, ?_, ?_⟩
  · unfold stateW; rw [if_pos ho, h1]; omega
  · unfold epochW; rw [if_pos ho, h1]; omega
theorem epochW_lt (w : Nat) : epochW w < 4294967296 := by
  unfold epochW
  split
  · rename_i h; have := okS_iff.1 h; omega
  · omega
theorem stateW_le (w : Nat) : stateW w ≤ 4 := by
  unfold stateW
  split
  · rename_i h; have := okS_iff.1 h; omega
  · omega
end
section
open Go.RowKit

/-- What is left of a number, seen as one of 64 bits without a sign, when it is divided by k. -/
def fx (k : Nat) (x : Int) : Nat := (IntKind.u64.wrap x).toNat % k
theorem u64_nonneg (x : Int) : 0 ≤ IntKind.u64.wrap x := by rw [IntKind.wrap_u64]; omega
theorem fx_tmod (k : Nat) (x : Int) : (IntKind.u64.wrap x).tmod (k : Int) = (fx k x : Int) := by
  rw [Int.tmod_eq_emod_of_nonneg (u64_nonneg x)]
  have h := u64_nonneg x
  unfold fx
  generalize IntKind.u64.wrap x = y at *
  obtain ⟨m, rfl⟩ : ∃ m : Nat, y = m := ⟨y.toNat, by omega⟩
  simp
theorem fx_lt {k : Nat} (hk : 0 < k) (x : Int) : fx k x < k := Nat.mod_lt _ hk
theorem fx_wrap {k : Nat} (hk : 0 < k) (hk2 : k ≤ 5000) (x : Int) : wrap64 ((IntKind.u64.wrap x).tmod (k : Int)) = (fx k x : Int) := by
  rw [fx_tmod]
  have := fx_lt hk x
  exact IntWalk.wrap64_in _ (by omega)
theorem fx_one {k : Nat} (hk : 0 < k) (hk2 : k ≤ 5000) (x : Int) (c : Nat) (hc : c ≤ 100000) : wrap64 ((c : Int) + (fx k x : Int)) = ((c + fx k x : Nat) : Int) := by
  have := fx_lt hk x
  rw [IntWalk.wrap64_in _ (by omega)]
  omega
theorem fx_sum {k : Nat} (hk : 0 < k) (hk2 : k ≤ 5000) (x : Int) (c : Nat) (hc : c ≤ 100000) : wrap64 ((c : Int) + wrap64 ((IntKind.u64.wrap x).tmod (k : Int))) = ((c + fx k x : Nat) : Int) := by
  rw [fx_wrap hk hk2, fx_one hk hk2 x c hc]
theorem fx_sum' {k : Nat} (hk : 0 < k) (hk2 : k ≤ 5000) (x : Int) (c : Nat) (hc : c ≤ 100000) : IntKind.i64.wrap ((c : Int) + IntKind.i64.wrap ((IntKind.u64.wrap x).tmod (k : Int))) = ((c + fx k x : Nat) : Int) := by
  have := fx_lt hk x
  rw [fx_tmod, IntWalk.i64_in (fx k x : Int) (by omega), IntWalk.i64_in _ (by omega)]
  omega
theorem fx_mod' {k : Nat} (hk : 0 < k) (hk2 : k ≤ 5000) (x : Int) : IntKind.i64.wrap ((IntKind.u64.wrap x).tmod (k : Int)) = (fx k x : Int) := by
  have := fx_lt hk x
  rw [fx_tmod, IntWalk.i64_in _ (by omega)]
/-- The rule of a port. -/
def fixRl (l : List Rl) (i : Nat) : Rl := if i < l.length then ⟨((1 + fx 4094 (l.getD i rl0).pv : Nat) : Int), ((fx 3 (l.getD i rl0).ac : Nat) : Int)⟩ else ⟨1, 0⟩
def fixRs (l : List Rl) (k : Nat) : List Rl := (List.range k).map (fixRl l)
theorem fixRs_length (l : List Rl) (k : Nat) : (fixRs l k).length = k := by simp [fixRs]
theorem fixRs_succ (l : List Rl) (k : Nat) : rlc (fixRs l (k + 1)) = rlc (fixRs l k) ++ [.int .i64 (fixRl l k).pv, .int .i64 (fixRl l k).ac] := by
  unfold fixRs
  rw [List.range_succ, List.map_append, rlc_append]
  rfl
/-- The number of the VLAN ahead of place k. -/
def vidF (l : List Vl) : Nat → Nat
  | 0 => 0
  | k + 1 => vidF l k + 1 + fx 3 (l.getD k vl0).vid
theorem vidF_le (l : List Vl) : ∀ k, vidF l k ≤ 3 * k
  | 0 => Nat.le_refl _
  | k + 1 => by
    have := vidF_le l k
    have := fx_lt (k := 3) (by omega) (l.getD k vl0).vid
    unfold vidF
    omega
theorem vid_sum (v f : Nat) (hv : v ≤ 100) (hf : f < 3) : wrap64 (wrap64 ((v : Int) + 1) + (f : Int)) = ((v + 1 + f : Nat) : Int) := by
  rw [IntWalk.wrap64_in ((v : Int) + 1) (by omega), IntWalk.wrap64_in _ (by omega)]
  omega
theorem vid_sum' (v f : Nat) (hv : v ≤ 100) (hf : f < 3) : wrap64 ((v : Int) + 1 + (f : Int)) = ((v + 1 + f : Nat) : Int) := by
  rw [IntWalk.wrap64_in _ (by omega)]
  omega
/-- The first j ports of a set. -/
def lowB (s j : Nat) : Nat := s % 2 ^ j
theorem lowB_zero (s : Nat) : lowB s 0 = 0 := by simp [lowB, Nat.mod_one]
theorem lowB_bit (s j i : Nat) : (lowB s j).testBit i = (decide (i < j) && s.testBit i) := by
  unfold lowB
  exact Nat.testBit_mod_two_pow ..
theorem lowB_yes {s j : Nat} (h : s.testBit j = true) : lowB s j ||| 2 ^ j = lowB s (j + 1) := by
  apply Nat.eq_of_testBit_eq
  intro i
  rw [Nat.testBit_or, lowB_bit, lowB_bit, Nat.testBit_two_pow]
  by_cases e : j = i
  · subst e; simp [h]
  · have : decide (i < j + 1) = decide (i < j) := decide_eq_decide.mpr (by omega)
    rw [this]
    simp [e]
theorem lowB_no {s j : Nat} (h : s.testBit j = false) : lowB s j = lowB s (j + 1) := by
  apply Nat.eq_of_testBit_eq
  intro i
  rw [lowB_bit, lowB_bit]
  by_cases e : j = i
  · subst e; simp [h]
  · have : decide (i < j + 1) = decide (i < j) := decide_eq_decide.mpr (by omega)
    rw [this]
theorem lowB_lt (s : Nat) {j : Nat} (hj : j ≤ 64) : lowB s j < 18446744073709551616 :=
  Nat.lt_of_lt_of_le (Nat.mod_lt _ (Nat.two_pow_pos j)) (Nat.le_trans (Nat.pow_le_pow_right (by omega) hj) (by decide))
theorem lowB_all {s : Nat} (h : s < 18446744073709551616) : lowB s 64 = s := Nat.mod_eq_of_lt h
/-- The VLAN at a place. -/
def fixVl (all : Nat) (l : List Vl) (i : Nat) : Vl := ⟨(vidF l (i + 1) : Int), all &&& (l.getD i vl0).mem, all &&& (l.getD i vl0).mem &&& (l.getD i vl0).unt⟩
def fixVs (all : Nat) (l : List Vl) (k : Nat) : List Vl := (List.range k).map (fixVl all l)
theorem fixVs_length (all : Nat) (l : List Vl) (k : Nat) : (fixVs all l k).length = k := by simp [fixVs]
theorem fixVs_succ (all : Nat) (l : List Vl) (k : Nat) : vlc (fixVs all l (k + 1)) = vlc (fixVs all l k) ++ [.int .i64 (vidF l (k + 1) : Int), .int .u64 ((all &&& (l.getD k vl0).mem : Nat) : Int), .int .u64 ((all &&& (l.getD k vl0).mem &&& (l.getD k vl0).unt : Nat) : Int)] := by
  unfold fixVs
  rw [List.range_succ, List.map_append, vlc_append]
  rfl
theorem fixRs_getD (l : List Rl) {k i : Nat} (h : i < k) : (fixRs l k).getD i rl0 = fixRl l i := by
  unfold fixRs
  rw [List.getD_eq_getElem?_getD, List.getElem?_map, List.getElem?_range h]
  rfl
theorem fixVs_getD (all : Nat) (l : List Vl) {k i : Nat} (h : i < k) : (fixVs all l k).getD i vl0 = fixVl all l i := by
  unfold fixVs
  rw [List.getD_eq_getElem?_getD, List.getElem?_map, List.getElem?_range h]
  rfl
/-- Such rules are right; such VLANs may be. -/
theorem fixR_good (l : List Rl) (i : Nat) : badR (fixRs l (i + 1)) i = false := by
  unfold badR
  rw [fixRs_getD l (by omega)]
  unfold fixRl ruleB vidB
  split
  · have := fx_lt (k := 4094) (by omega) (l.getD i rl0).pv
    have := fx_lt (k := 3) (by omega) (l.getD i rl0).ac
    simp only [Bool.not_eq_false', Bool.and_eq_true, decide_eq_true_eq]
    omega
  · rfl
theorem fixRs_first (l : List Rl) (P : Nat) : FirstBad (fixRs l P) P P := by
  refine ⟨Nat.le_refl _, fun i hi => ?_, fun h => absurd h (by omega)⟩
  have := fixR_good l i
  unfold badR at *
  rw [fixRs_getD l (by omega)] at this
  rw [fixRs_getD l hi]
  exact this
theorem within_and (a b : Nat) : withinB (a &&& b) a = true := by
  unfold withinB
  rw [withinK_iff]
  intro i _ h
  rw [Nat.testBit_and, Bool.and_eq_true] at h
  exact h.1
theorem fixVs_check (l : List Vl) {P k : Nat} (h2 : 2 ≤ P) (hP : P ≤ 64) (hk : k ≤ 8) : checkN (fixVs (allN P) l k) P k = 0 := by
  refine check0 (by omega) (by omega) fun i hi => ?_
  unfold wrongAt
  rw [fixVs_getD _ l hi]
  have hv := vidF_le l (i + 1)
  have h3 : vidF l (i + 1) = vidF l i + 1 + fx 3 (l.getD i vl0).vid := rfl
  rw [if_neg, if_neg, if_neg]
  · have : withinB (fixVl (allN P) l i).unt (fixVl (allN P) l i).mem = true := within_and _ _
    rw [this]; simp
  · have : withinB (fixVl (allN P) l i).mem (allN P) = true := within_and _ _
    rw [this]; simp
  · rintro (h | ⟨h, h'⟩)
    · unfold vidB fixVl at h
      simp at h
      omega
    · rw [fixVs_getD _ l (by omega)] at h'
      have h4 : i - 1 + 1 = i := by omega
      unfold fixVl at h'
      rw [h4] at h'
      simp at h'
      omega
theorem fixVs_ok (l : List Vl) (all : Nat) (ha : all < 18446744073709551616) (k : Nat) (hk : k ≤ 8) : ∀ x ∈ fixVs all l k, x.ok := by
  intro x hx
  obtain ⟨i, hi, rfl⟩ := List.mem_map.mp hx
  have hi := List.mem_range.mp hi
  have hv := vidF_le l (i + 1)
  have h1 : all &&& (l.getD i vl0).mem < 18446744073709551616 := Nat.lt_of_le_of_lt Nat.and_le_left ha
  refine ⟨?_, h1, Nat.lt_of_le_of_lt Nat.and_le_left h1⟩
  unfold fixVl
  simp only
  omega
end
end Go.Proofs.Ytcnfilbmmlolmaa
