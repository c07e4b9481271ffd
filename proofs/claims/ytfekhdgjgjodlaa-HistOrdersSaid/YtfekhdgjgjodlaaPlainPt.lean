/-
  Words and contracts that a statement's proof rests on (Kit2, Base2, Base3, Turn, But, MoN, PlainPt, PtA, PtB). No statement is proved here.
-/
import Derived.IntWalk
import Derived.Laws.Bits64
import Derived.Lib.Hide
import Derived.StillTailTactics
import Derived.Test.YtfekhdgjgjodlaaBase
import Derived.Test.YtfekhdgjgjodlaaPlainKy
import Derived.Test.YtfekhdgjgjodlaaTicks
set_option linter.unusedVariables false
set_option linter.unusedSimpArgs false
namespace Go.Proofs.Ytfekhdgjgjodlaa
section
open Go.RowKit
theorem still0 {P:Program} {f:FuncId} {args:Array Value} {v:Value} (h:∀ W,Calls P f args W fun e w' => e=.returned v∧W=w') (w:World) (n:Nat) :
  Calls P f args (w.drewN n) fun e w' => e=.returned v∧∃ m,w'=w.drewN m:=(h _).mono fun _ _ hh => ⟨hh.1,n,hh.2.symm⟩
end
section
open Go.RowKit
def mkC (z:Value) (size M:Nat):Array Value:=madeCells z.cells (M * size)
theorem mkC_size (z:Value) (size M:Nat):(mkC z size M).size=M * size:=size_madeCells _ _
end
section
open Go.RowKit
theorem run_mkFull {P:Program} (w:World) {t e:TypeId} {z:Value} {size bytes:Nat} (hT:ST P t e z size bytes) (k:Nat) (hk:bytes * k≤281474976710656) :
  (Instr.makeSlice t (.int .i64 (k:Int)) (.int .i64 (k:Int))).run P w=.ok (.slice (some ⟨w.heap.size,0,none⟩) k k) (w.alloc (.cells (mkC z size k) e)):=by
 obtain ⟨i,ht,hi,hz,hsz,hby,hzs,hs0,hb0⟩:=hT
 have h1:k≤bytes * k:=Nat.le_mul_of_pos_left _ hb0
 have h2:(i.bytes:Int) * (k:Int)≤281474976710656:=by
  have h3:((bytes * k:Nat):Int)≤281474976710656:=by omega
  rw [hby]
  rwa [Int.natCast_mul] at h3
 have:=run_make (P:=P) w t e i z ht hi hz .i64 .i64 (k:Int) (k:Int) (by omega) (Int.le_refl _) h2 (by omega)
 rw [hsz] at this
 exact this
theorem Sl.set {w:World} {B n b off cap i:Nat} {xs:List Value} (h:Sl w B 1 (.slice (some ⟨b,off,none⟩) n cap) n xs) (hi:i < n) (u:Value):Sl (w.setCell ⟨b,off + i,none⟩ u) B 1 (.slice (some ⟨b,off,none⟩) n cap) n (xs.set i u):=by
 obtain ⟨hl,A',cap',hv,h1,h2,h3⟩:=h
 injection hv with e1 _ e2
 subst e1 e2
 refine ⟨by rw [List.length_set]; exact hl,_,cap,rfl,h1,h2,fun h0 => ?_⟩
 obtain ⟨b',off',hA,hB,hc⟩:=h3 h0
 injection hA with hA
 injection hA with e3 e4
 subst e3 e4
 refine ⟨b,off,rfl,hB,fun j hj => ?_⟩
 by_cases hij:i=j
 ·subst hij
  have hx:=hc i hj
  have hsome:xs[i]?=some (xs[i]'(by omega)):=List.getElem?_eq_getElem _
  rw [World.cell?_setCell_same _ _ _ (hx.trans hsome),List.getElem?_set_self (by omega)]
 ·rw [World.cell?_setCell_other _ _ _ _ (by simp),hc j hj,List.getElem?_set_ne hij]
end
section
open Go.RowKit
def mixS (d c x:Int):Int:=IntKind.u64.wrap (bits .xor .u64 x (x / d) * c)
def mixZ (n:Int):Int:=mixS 134217728 10723151780598845931 (mixS 1073741824 13787848793156543929 (IntKind.u64.wrap (n + 11400714819323198485)))
def mixI (n:Int):Int:=bits .xor .u64 (mixZ n) (mixZ n / 2147483648)
theorem u64_wrap_bd (y:Int):0≤IntKind.u64.wrap y∧IntKind.u64.wrap y < 18446744073709551616:=by
 rw [IntKind.wrap_u64]; omega
theorem mixI_bd (n:Int):0≤mixI n∧mixI n < 18446744073709551616:=by
 obtain ⟨h0,h1⟩:=u64_wrap_bd (bits .xor .u64 (mixS 1073741824 13787848793156543929 (IntKind.u64.wrap (n + 11400714819323198485))) (mixS 1073741824 13787848793156543929 (IntKind.u64.wrap (n + 11400714819323198485)) / 134217728) * 10723151780598845931)
 change 0≤mixZ n at h0
 change mixZ n < _ at h1
 unfold mixI
 generalize mixZ n=x at *
 obtain ⟨X,rfl⟩:=Int.eq_ofNat_of_zero_le h0
 have hX:X < 18446744073709551616:=by omega
 have:=xorShift_u64 X 2147483648 hX
 rw [show ((2147483648:Nat):Int)=2147483648 from rfl] at this
 rw [this]
 have h2:X ^^^ X / 2147483648 < 2 ^ 64:=Nat.xor_lt_two_pow (by omega) (by omega)
 omega
theorem turn_Mix (n:Int) (hn:0≤n∧n < 18446744073709551616) (w:World) :
  Calls Try.prog 91 #[.int .u64 n] w fun e w' => e=.returned (.int .u64 (mixI n))∧w=w':=by
 clear hn
 go_enter Try.func91,Try.ntmps91
 go_wp2
 go_ret
 exact ⟨rfl,rfl⟩
end
section
open Go.RowKit
structure But (q:Nat) (w w':World):Prop where
 below:Below q w w'
 rest:∀ b,b < w.heap.size→b ≠ q→w'.heap[b]?=w.heap[b]?
theorem But.of {q:Nat} {w w':World} (h:Below w.heap.size w w') (hq:q≤w.heap.size):But q w w':=⟨h.mono hq,fun b hb _ => h.block b hb⟩
theorem But.trans {q:Nat} {a b c:World} (h:But q a b) (k:But q b c):But q a c :=
 ⟨h.below.trans k.below,fun x hx hne => (k.rest x (Nat.lt_of_lt_of_le hx h.below.size) hne).trans (h.rest x hx hne)⟩
theorem But.cell {q:Nat} {w w':World} (h:But q w w') {p:Addr} (hp:p.block < w.heap.size) (hq:p.block ≠ q):w'.cell? p=w.cell? p :=
 World.cell?_of_block (w:=w) (h.rest p.block hp hq)
theorem But.frozen {q:Nat} {w w':World} (h:But q w w') {p:Addr} (hp:p.block < w.heap.size) (hq:p.block ≠ q):w'.frozen? p=w.frozen? p :=
 World.frozen?_of_block (w:=w) (h.rest p.block hp hq)
theorem But.set {q:Nat} {w:World} (o:Nat) (v:Value):But q w (w.setCell ⟨q,o,none⟩ v) :=
 ⟨(Below.refl q w).setCell (Nat.le_refl _) v,fun b _ hne => Below.heap_setCell _ _ _ _ hne⟩
end
section
open Go.RowKit
def opV (kd po tt vi st kv:Int) (km:Int) (me un:Int) (nw li:Int) (sh bu id:Int):Value:=.agg #[.int .i64 kd,.int .i64 po,.int .i64 tt,.int .i64 vi,.int .i64 st,.int .i64 kv,.int .u64 km,.int .u64 me,.int .u64 un,.int .u32 nw,.int .u32 li,.int .i64 sh,.int .i64 bu,.int .i64 id]
end
section
def rightSt (s:Int):Bool:=decide (0≤s) && decide (s≤4)
theorem rightSt_iff {s:Int}:rightSt s=true ↔ 0≤s∧s≤4:=by simp [rightSt]
theorem rightSt_no {s:Int} (h:¬ (0≤s∧s≤4)):rightSt s=false:=by
 rw [Bool.eq_false_iff]; exact fun e => h (rightSt_iff.1 e)
end
section
open Go.RowKit
set_option maxHeartbeats 800000 in
theorem port_Right (s:Int) (w:World):Calls Try.prog 88 #[.int .i64 s] w fun e w' => e=.returned (.bool (rightSt s))∧w=w':=by
 by_cases h1:0≤s
 ·have d1:decide (s ≥ 0)=true:=by simpa using h1
  have d1':decide (0≤s)=true:=by simpa using h1
  by_cases h2:s≤4
  ·have d2:decide (s≤4)=true:=by simpa using h2
   have hr:rightSt s=true:=rightSt_iff.2 ⟨h1,h2⟩
   rw [hr]
   go_enter Try.func88,Try.ntmps88
   go_wp2
   go_ret
   exact ⟨by first | rfl | (simp; done) | (simp [h1,h2]; done),rfl⟩
  ·have d2:decide (s≤4)=false:=by simpa using h2
   have hr:rightSt s=false:=rightSt_no (by omega)
   rw [hr]
   go_enter Try.func88,Try.ntmps88
   go_wp2
   go_ret
   exact ⟨by first | rfl | (simp; done) | (simp [h1,h2]; done),rfl⟩
 ·have d1:decide (s ≥ 0)=false:=by simpa using h1
  have d1':decide (0≤s)=false:=by simpa using h1
  have hr:rightSt s=false:=rightSt_no (by omega)
  rw [hr]
  go_enter Try.func88,Try.ntmps88
  go_wp2
  go_ret
  exact ⟨by first | rfl | (simp; done) | (simp [h1]; done),rfl⟩
set_option maxHeartbeats 800000 in
theorem port_Forwards (s:Int) (w:World):Calls Try.prog 78 #[.int .i64 s] w fun e w' => e=.returned (.bool (decide (s=4)))∧w=w':=by
 have hh:decide (s=4)=(s == 4):=by by_cases h4:s=4 <;> simp [h4]
 rw [hh]
 go_enter Try.func78,Try.ntmps78
 go_wp2
 go_ret
 exact ⟨by first | rfl | (simp; done),rfl⟩
end
section
open Go.RowKit
set_option maxHeartbeats 1600000 in
theorem port_Set (s x:Int) (k:Nat) (w:World):Calls Try.prog 76 #[.agg #[.int .i64 s,.int .u32 (k:Int)],.int .i64 x] w (Says (if rightSt x=true then .tuple #[.agg #[.int .i64 x,.int .u32 (((k + 1) % 4294967296:Nat):Int)],.int .i64 0] else .tuple #[.agg #[.int .i64 0,.int .u32 0],.int .i64 7]) w):=by
 have HR:=Lib.hid (fun W => port_Right x W)
 by_cases h:rightSt x=true
 ·rw [if_pos h]
  rw [h] at HR
  have hk:IntKind.u32.wrap ((k:Int) + 1)=(((k + 1) % 4294967296:Nat):Int):=by rw [IntKind.wrap_u32]; omega
  generalize (((k + 1) % 4294967296:Nat):Int)=K at *
  generalize (k:Int)=k at *
  clear h
  go_enter Try.func76,Try.ntmps76
  go_wp2_with fail
  refine (HR.out _).mono ?_
  rintro e w1 ⟨rfl,rfl⟩
  go_wp2
  exact bodyPost_ret (v:=.tuple #[.agg #[.int .i64 x,.int .u32 K],.int .i64 0]) (by first | (simp [results,Try.results76,go_sem]; done) | (simp_all [results,Try.results76,go_sem]; done)) rfl ⟨rfl,(by (repeat' (first | (with_reducible exact Below.refl _ _) | (with_reducible assumption) | (with_reducible refine Below.setCell ?_ ?_ _) | (with_reducible refine Below.alloc ?_ ?_ _) | (with_reducible refine below_drewN ?_ _) | (with_reducible refine Below.drew ?_) | go_size)))⟩
 ·rw [if_neg h]
  have h:rightSt x=false:=by simpa using h
  rw [h] at HR
  clear h
  go_enter Try.func76,Try.ntmps76
  go_wp2_with fail
  refine (HR.out _).mono ?_
  rintro e w1 ⟨rfl,rfl⟩
  go_wp2
  exact bodyPost_ret (v:=.tuple #[.agg #[.int .i64 0,.int .u32 0],.int .i64 7]) (by first | (simp [results,Try.results76,go_sem]; done) | (simp_all [results,Try.results76,go_sem]; done)) rfl ⟨rfl,(by (repeat' (first | (with_reducible exact Below.refl _ _) | (with_reducible assumption) | (with_reducible refine Below.setCell ?_ ?_ _) | (with_reducible refine Below.alloc ?_ ?_ _) | (with_reducible refine below_drewN ?_ _) | (with_reducible refine Below.drew ?_) | go_size)))⟩
end
end Go.Proofs.Ytfekhdgjgjodlaa
