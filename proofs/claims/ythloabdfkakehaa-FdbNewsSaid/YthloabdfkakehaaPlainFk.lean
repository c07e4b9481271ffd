/-
  Words and contracts that a statement's proof rests on (FdB, PlainFk, FeF). No statement is proved here.
-/
import Derived.Deep.RegionHeld3
import Derived.Test.YthloabdfkakehaaFdA
import Derived.Test.YthloabdfkakehaaPlainFj
set_option linter.unusedVariables false
set_option linter.unusedSimpArgs false
namespace Go.Proofs.Ythloabdfkakehaa
section
open Go.RowKit
theorem fdb_wide (S B n:Nat) (hn:n≤8) (w:World):Calls Try.prog 48 #[.agg #[.int .i64 (S:Nat),.int .i64 (B:Nat),.int .i64 (n:Nat)]] w (Says (.int .i64 ((1 + 2 * n:Nat):Int)) w):=by
 have e:((1 + 2 * n:Nat):Int)=1 + 2 * (n:Int):=by simp
 rw [e]
 go_enter Try.func48,Try.ntmps48
 go_wp2
 go_ret
 exact ⟨rfl,(Below.refl _ _).alloc (Nat.le_refl _) _⟩
theorem fdb_isEven (x:Int) (h0:0≤x) (w:World):Calls Try.prog 88 #[.int .u64 x] w fun e w' => e=.returned (.bool (decide (x % 2=0)))∧w=w':=by
 have e:decide (x % 2=0)=(x % 2 == 0):=by rw [Bool.eq_iff_iff]; simp
 rw [e]
 go_enter Try.func88,Try.ntmps88
 go_wp2
 go_ret
 exact ⟨rfl,rfl⟩
section
variable {w:World} {lo b fb L ab:Nat} {E:Nat→Prop} {F:FcS} {m:MemS} {a:FaS} {fv lv wv:Value}
theorem fact_Over (ha:FactIn w L E fb ab F a fv lv wv) {z:Bool} (hz:decide (a.st=0)=z) :
  Calls Try.prog 21 #[.pointer (some ⟨ab,0,none⟩)] w fun e w' => e=.returned (.bool z)∧w=w':=by
 have r7:w.cell? ⟨ab,7,none⟩=some (.int .i64 (a.st:Nat)):=ha.at_ (i:=7) (by omega)
 have hk:((a.st:Int) == 0)=z:=by rw [← hz,Bool.eq_iff_iff]; simp
 generalize a.st=s at *
 clear ha hz
 go_enter Try.func21,Try.ntmps21
 go_wp2
 go_ret
 exact ⟨rfl,rfl⟩
theorem fact_Mark (ha:FactIn w L E fb ab F a fv lv wv) :
  Calls Try.prog 22 #[.pointer (some ⟨ab,0,none⟩)] w fun e w' => e=.returned (.int .i64 a.mark)∧w=w':=by
 have r7:w.cell? ⟨ab,13,none⟩=some (.int .i64 a.mark):=ha.at_ (i:=13) (by omega)
 generalize a.mark=s at *
 clear ha
 go_enter Try.func22,Try.ntmps22
 go_wp2
 go_ret
 exact ⟨rfl,rfl⟩
theorem fact_Answer (ha:FactIn w L E fb ab F a fv lv wv) :
  Calls Try.prog 23 #[.pointer (some ⟨ab,0,none⟩)] w fun e w' => e=.returned (.int .i64 (if a.st=0 then a.ans else 0))∧w=w':=by
 have r7:w.cell? ⟨ab,7,none⟩=some (.int .i64 (a.st:Nat)):=ha.at_ (i:=7) (by omega)
 have r14:w.cell? ⟨ab,14,none⟩=some (.int .i64 a.ans):=ha.at_ (i:=14) (by omega)
 by_cases hs:a.st=0
 ·rw [if_pos hs]
  have hk:((a.st:Int) != 0)=false:=by simp [hs]
  generalize a.st=s at *
  generalize a.ans=q at *
  clear ha hs
  go_enter Try.func23,Try.ntmps23
  go_wp2
  go_ret
  exact ⟨rfl,rfl⟩
 ·rw [if_neg hs]
  have hk:((a.st:Int) != 0)=true:=by simp [hs]
  generalize a.st=s at *
  generalize a.ans=q at *
  clear ha hs
  go_enter Try.func23,Try.ntmps23
  go_wp2
  go_ret
  exact ⟨rfl,rfl⟩
theorem grow_low {w':World} (ha:FactIn w L E fb ab F a fv lv wv) (hz:w.heap.size≤w'.heap.size) (hL:L≤w.heap.size):∀ k,growE E w w' k→L≤k∧k < w'.heap.size:=fun k hk => by
 rcases hk with h | h
 ·have:=ha.low k h; omega
 ·omega
theorem FactIn.grown {w':World} {a':FaS} {fv' lv' wv':Value} (ha:FactIn w L E fb ab F a fv lv wv) (h:FactIn w' L E fb ab F a' fv' lv' wv') (hz:w.heap.size≤w'.heap.size) (hL:L≤w.heap.size):FactAt w' L (growE E w w') fb ab F a' :=
 ⟨fv',lv',wv',h.grow (fun _ h => .inl h) (grow_low ha hz hL)⟩
set_option maxHeartbeats 800000 in
theorem fact_takeEffect (hf:FdbAt w lo b fb F m) (ha:FactIn w L E fb ab F a fv lv wv) (ht:0≤m.t∧m.t≤4611686018427387904) (h1:lo + 3≤L) (h2:fb < L) :
  Calls Try.prog 89 #[.pointer (some ⟨ab,0,none⟩)] w fun e w' => e=.returned (.tuple #[])∧w'=w.setCell ⟨ab,13,none⟩ (.int .i64 m.t):=by
 have r0:w.cell? ⟨ab,0,none⟩=some (.pointer (some ⟨fb,0,none⟩)):=ha.at_ (i:=0) (by omega)
 have r13:w.cell? ⟨ab,13,none⟩=some (.int .i64 a.mark):=ha.at_ (i:=13) (by omega)
 have f13:=ha.fz 13
 obtain ⟨s0,_⟩:=hf.at_
 have hT:=Lib.hid (mem_Time hf.mem)
 generalize m.t=t at *
 clear ha hf ht
 go_enter Try.func89,Try.ntmps89
 go_wp2_with fail
 refine (hT.out).mono ?_
 rintro e w1 ⟨rfl,rfl⟩
 go_wp2
 go_end0
 exact ⟨rfl,rfl⟩
set_option maxHeartbeats 800000 in
theorem fact_end (ha:FactIn w L E fb ab F a fv lv wv) :
  Calls Try.prog 90 #[.pointer (some ⟨ab,0,none⟩)] w fun e w' => e=.returned (.tuple #[])∧w'=((w.setCell ⟨ab,7,none⟩ (.int .i64 0)).setCell ⟨ab,9,none⟩ (.slice none 0 0)).setCell ⟨ab,10,none⟩ (.slice none 0 0):=by
 have r7:w.cell? ⟨ab,7,none⟩=some (.int .i64 (a.st:Nat)):=ha.at_ (i:=7) (by omega)
 have r9:w.cell? ⟨ab,9,none⟩=some lv:=ha.at_ (i:=9) (by omega)
 have r10:w.cell? ⟨ab,10,none⟩=some wv:=ha.at_ (i:=10) (by omega)
 have f7:=ha.fz 7
 have f9:=ha.fz 9
 have f10:=ha.fz 10
 clear ha
 go_enter Try.func90,Try.ntmps90
 go_wp2
 go_end0
 exact ⟨rfl,rfl⟩
end
end
section
section
variable {F:FcS} {m:MemS} {N:Nat} {A:Nat→FaS} {g:Nat→Nat→Pl}
def muF (F:FcS) (a:FaS):Nat :=
 if a.st=0 then 0
 else if a.st=5 then a.held
 else if a.st=4 then (a.wr.length - a.wt) + a.lc
 else if a.st=3 then (a.hc * F.W - a.ld.length) + (a.hc * (F.W + 1) + a.lc)
 else if a.st=2 then (a.lc - a.held) + (a.hc * F.W + (a.hc * (F.W + 1) + a.lc))
 else ((F.tr - a.vain) * (F.W + 1) - a.ld.length) + (a.lc + (a.hc * F.W + (a.hc * (F.W + 1) + a.lc)))
def Blocked (m:MemS) (a:FaS):Prop:=a.st=2∧m.h (a.l0 + a.held) ≠ -1
instance (m:MemS) (a:FaS):Decidable (Blocked m a):=by unfold Blocked; exact inferInstance
theorem RunP.free {lg:List Nat} {fr tt:Nat→Int} (h:RunP F m N A g lg fr tt) (h0:∀ i,i < N→(A i).st=0) (x:Nat):m.h x=-1:=by
 rcases h.lock x with h9 | ⟨j,hj,h9⟩
 ·exact h9
 ·have:=(h.inv.stg j hj).held0 (h0 j hj)
  omega
theorem RunP.book {lg:List Nat} {fr tt:Nat→Int} (h:RunP F m N A g lg fr tt) (h0:∀ i,i < N→(A i).st=0) {H:Nat} (hH:H < F.S * F.B):eqP F.n (bkM F m.c H) (g H) :=
 (h.inv.idle H hH fun i hi h4 => by have:=h0 i hi; omega).2
def boundF (F:FcS):Nat:=16 + F.tr * (4 + 4 * F.n) + F.S * (4 + F.B * (8 + 8 * F.n))
def wkO (K:Nat) (v:Int) (mc:Nat) (port vid:Int) (now old:Nat):Wk :=
 if K=0 then .look v mc
 else if K=3 then .order v mc port now
 else if K=4 then .drop v mc
 else if K=5 then .age now old
 else if K=6 then .flush port vid
 else .learn v mc port now
end
end
section
open Go.RowKit
section
variable {w:World}
theorem none_Over (w:World):Calls Try.prog 21 #[.pointer none] w (Says (.bool true) w):=by
 go_enter Try.func21,Try.ntmps21
 go_wp2_with (first
  | go_big_skip
  | fail)
 go_wp2
 go_ret
 exact ⟨rfl,by first | exact Below.refl _ _ | exact below_drewN (Below.refl _ _) _⟩
theorem none_Mark (w:World):Calls Try.prog 22 #[.pointer none] w (Says (.int .i64 0) w):=by
 go_enter Try.func22,Try.ntmps22
 go_wp2_with (first
  | go_big_skip
  | fail)
 go_wp2
 go_ret
 exact ⟨rfl,by first | exact Below.refl _ _ | exact below_drewN (Below.refl _ _) _⟩
theorem none_Answer (w:World):Calls Try.prog 23 #[.pointer none] w (Says (.int .i64 0) w):=by
 go_enter Try.func23,Try.ntmps23
 go_wp2_with (first
  | go_big_skip
  | fail)
 go_wp2
 go_ret
 exact ⟨rfl,by first | exact Below.refl _ _ | exact below_drewN (Below.refl _ _) _⟩
theorem none_Tries (w:World):Calls Try.prog 24 #[.pointer none] w (Says (.int .i64 0) w):=by
 go_enter Try.func24,Try.ntmps24
 go_wp2_with (first
  | go_big_skip
  | fail)
 go_wp2
 go_ret
 exact ⟨rfl,by first | exact Below.refl _ _ | exact below_drewN (Below.refl _ _) _⟩
theorem none_Step (w:World):Calls Try.prog 20 #[.pointer none] w (Says (.bool true) w):=by
 have HO:=Lib.hid fun W => none_Over W
 go_enter Try.func20,Try.ntmps20
 go_wp2_with fail
 refine (HO.out _).mono ?_
 rintro e w1 ⟨rfl,hb1⟩
 go_wp2
 go_ret
 exact ⟨rfl,hb1⟩
end
end
end Go.Proofs.Ythloabdfkakehaa
