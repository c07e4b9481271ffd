/-
  Words and contracts that a statement's proof rests on (FeG). No statement is proved here.
-/
import Derived.Test.YthloabdfkakehaaBuQ
import Derived.Test.YthloabdfkakehaaFdZ
set_option linter.unusedVariables false
set_option linter.unusedSimpArgs false
namespace Go.Proofs.Ythloabdfkakehaa
open Go.RowKit
theorem rightS_nat {S B n:Nat} (hS:1≤S∧S≤8) (hB:1≤B∧B≤16) (hn:1≤n∧n≤8):rightS (S:Int) (B:Int) (n:Int)=true:=by
 unfold rightS inB
 simp
 omega
set_option maxHeartbeats 800000 in
theorem fdb_rightTries (t:Int) (w:World):Calls Try.prog 44 #[.int .i64 t] w fun e w' => e=.returned (.bool (inB t 8))∧w=w':=by
 unfold inB
 by_cases h:1≤t
 ·have d:decide (1≤t)=true:=by simpa using h
  rw [d]
  by_cases h2:t≤8
  ·have d2:decide (t≤8)=true:=by simpa using h2
   rw [d2]
   clear d d2
   go_enter Try.func44,Try.ntmps44
   go_wp2
   go_ret
   exact ⟨by simp,rfl⟩
  ·have d2:decide (t≤8)=false:=by simpa using h2
   rw [d2]
   clear d d2
   go_enter Try.func44,Try.ntmps44
   go_wp2
   go_ret
   exact ⟨by simp,rfl⟩
 ·have d:decide (1≤t)=false:=by simpa using h
  rw [d]
  clear d
  go_enter Try.func44,Try.ntmps44
  go_wp2
  go_ret
  exact ⟨by simp,rfl⟩
def withinI (first:Int) (count have_:Nat):Bool:=decide (0≤first) && decide (first≤(have_:Int) - (count:Int))
set_option maxHeartbeats 800000 in
theorem fdb_within (first:Int) (count have_:Nat) (hc:count≤1048576) (hh:have_≤1048576) (w:World):Calls Try.prog 45 #[.int .i64 first,.int .i64 (count:Nat),.int .i64 (have_:Nat)] w fun e w' => e=.returned (.bool (withinI first count have_))∧w=w':=by
 unfold withinI
 obtain ⟨D,hD⟩:∃ D,D=(have_:Int) - (count:Int):=⟨_,rfl⟩
 have x1:wrap64 ((have_:Int) - (count:Int))=D:=by rw [hD]; exact IntWalk.wrap64_in _ (by omega)
 have x2:IntKind.i64.wrap ((have_:Int) - (count:Int))=D:=by rw [hD]; exact IntWalk.i64_in _ (by clear x1; omega)
 rw [← hD]
 clear hD hc hh
 by_cases h:0≤first
 ·have d:decide (0≤first)=true:=by simpa using h
  rw [d]
  by_cases h2:first≤D
  ·have d2:decide (first≤D)=true:=by simpa using h2
   rw [d2]
   clear d d2
   go_enter Try.func45,Try.ntmps45
   go_wp2
   go_ret
   exact ⟨by simp,rfl⟩
  ·have d2:decide (first≤D)=false:=by simpa using h2
   rw [d2]
   clear d d2
   go_enter Try.func45,Try.ntmps45
   go_wp2
   go_ret
   exact ⟨by simp,rfl⟩
 ·have d:decide (0≤first)=false:=by simpa using h
  rw [d]
  clear d
  go_enter Try.func45,Try.ntmps45
  go_wp2
  go_ret
  exact ⟨by simp,rfl⟩
set_option maxHeartbeats 1600000 in
theorem fdb_CellsY (S B n:Nat) (hS:1≤S∧S≤8) (hB:1≤B∧B≤16) (hn:1≤n∧n≤8) (w:World) :
  Calls Try.prog 12 #[.agg #[.int .i64 (S:Nat),.int .i64 (B:Nat),.int .i64 (n:Nat)]] w (Says (.int .i64 ((S * B * (1 + 2 * n):Nat):Int)) w):=by
 have hr:=rightS_nat hS hB hn
 have HR:=Lib.hid fun W => book_Right (S:Int) (B:Int) (n:Int) W
 rw [hr] at HR
 have HWD:=Lib.hid fun W => fdb_wide S B n (by omega) W
 obtain ⟨V,hV⟩:∃ V,V=1 + 2 * n:=⟨_,rfl⟩
 rw [← hV] at HWD ⊢
 obtain ⟨J,hJ⟩:∃ J,J=S * B:=⟨_,rfl⟩
 obtain ⟨K,hK⟩:∃ K,K=J * V:=⟨_,rfl⟩
 have hJ2:J≤128:=by rw [hJ]; exact Nat.mul_le_mul hS.2 hB.2
 have hK2:K≤2176:=by rw [hK]; exact Nat.mul_le_mul hJ2 (show V≤17 by omega)
 have z1:wrap64 ((S:Int) * (B:Int))=(J:Int)∧IntKind.i64.wrap ((S:Int) * (B:Int))=(J:Int):=by
  rw [← Int.natCast_mul,← hJ]
  exact ⟨IntWalk.wrap64_in _ (by omega),IntWalk.i64_in _ (by omega)⟩
 have z2:wrap64 ((J:Int) * (V:Int))=(K:Int)∧IntKind.i64.wrap ((J:Int) * (V:Int))=(K:Int):=by
  rw [← Int.natCast_mul,← hK]
  exact ⟨IntWalk.wrap64_in _ (by clear z1; omega),IntWalk.i64_in _ (by clear z1; omega)⟩
 rw [← hJ,← hK]
 obtain ⟨x1,x2⟩:=z1
 obtain ⟨x3,x4⟩:=z2
 clear hr hV hJ hK hJ2 hK2 hS hB hn
 go_enter Try.func12,Try.ntmps12
 go_wp2_with (first
  | go_big_skip
  | (go_at_call 43; (with_reducible refine Calls.mono (HR.out _) ?_); rintro e w1 ⟨rfl,hb1⟩; have HB1:=Lib.hid (((Below.refl w.heap.size w).alloc (Nat.le_refl _) _).trans (hb1.mono (by simp))); have c0:w1.cell? ⟨w.heap.size,0,none⟩=some (.int .i64 (S:Nat)):=(hb1.cell (p:=⟨w.heap.size,0,none⟩) (by simp)).trans (by simp [go_sem]); have c1:w1.cell? ⟨w.heap.size,1,none⟩=some (.int .i64 (B:Nat)):=(hb1.cell (p:=⟨w.heap.size,1,none⟩) (by simp)).trans (by simp [go_sem]); have c2:w1.cell? ⟨w.heap.size,2,none⟩=some (.int .i64 (n:Nat)):=(hb1.cell (p:=⟨w.heap.size,2,none⟩) (by simp)).trans (by simp [go_sem]); have hlt9:w.heap.size < w1.heap.size:=Nat.lt_of_lt_of_le (by simp) hb1.size; clear hb1)
  | fail)
 have HC9:=Lib.hid fun q W (hb:Below (w1.drewN q).heap.size (w1.drewN q) W) => show (W.cell? ⟨w.heap.size,0,none⟩=some (.int .i64 (S:Nat))∧W.cell? ⟨w.heap.size,1,none⟩=some (.int .i64 (B:Nat))∧W.cell? ⟨w.heap.size,2,none⟩=some (.int .i64 (n:Nat)))∧Below w.heap.size w W from ⟨⟨(hb.cell (p:=⟨w.heap.size,0,none⟩) hlt9).trans c0,(hb.cell (p:=⟨w.heap.size,1,none⟩) hlt9).trans c1,(hb.cell (p:=⟨w.heap.size,2,none⟩) hlt9).trans c2⟩,(below_drewN HB1.out q).trans (hb.mono HB1.out.size)⟩
 go_region_held3 (fun w' => w'.cell? ⟨w.heap.size,0,none⟩=some (.int .i64 (S:Nat))∧w'.cell? ⟨w.heap.size,1,none⟩=some (.int .i64 (B:Nat))∧w'.cell? ⟨w.heap.size,2,none⟩=some (.int .i64 (n:Nat))) (first | exact HB2.out.1 | exact ⟨c0,c1,c2⟩ | go_keep) (first
  | (go_at_call 48; (with_reducible refine Calls.mono (HWD.out _) ?_); rintro e w2 ⟨rfl,hb2⟩; have HB2:=Lib.hid (HC9.out _ _ hb2); clear hb2))
 go_wp2
 go_ret
 exact ⟨by first | rfl | (simp; done),HB2.out.2⟩
set_option maxHeartbeats 1600000 in
theorem fdb_CellsN (a b c:Int) (hr:rightS a b c=false) (w:World) :
  Calls Try.prog 12 #[.agg #[.int .i64 a,.int .i64 b,.int .i64 c]] w (Says (.int .i64 0) w):=by
 have HR:=Lib.hid fun W => book_Right a b c W
 rw [hr] at HR
 clear hr
 go_enter Try.func12,Try.ntmps12
 go_wp2_with (first
  | go_big_skip
  | (go_at_call 43; (with_reducible refine Calls.mono (HR.out _) ?_); rintro e w1 ⟨rfl,hb1⟩; have HB1:=Lib.hid (((Below.refl w.heap.size w).alloc (Nat.le_refl _) _).trans (hb1.mono (by simp))); clear hb1)
  | fail)
 go_wp2
 go_ret
 exact ⟨rfl,HB1.out⟩
set_option maxHeartbeats 1600000 in
theorem fdb_LocksY (S B n:Nat) (hS:1≤S∧S≤8) (hB:1≤B∧B≤16) (hn:1≤n∧n≤8) (w:World) :
  Calls Try.prog 13 #[.agg #[.int .i64 (S:Nat),.int .i64 (B:Nat),.int .i64 (n:Nat)]] w (Says (.int .i64 (S:Nat)) w):=by
 have hr:=rightS_nat hS hB hn
 have HR:=Lib.hid fun W => book_Right (S:Int) (B:Int) (n:Int) W
 rw [hr] at HR
 clear hr hS hB hn
 go_enter Try.func13,Try.ntmps13
 go_wp2_with (first
  | go_big_skip
  | (go_at_call 43; (with_reducible refine Calls.mono (HR.out _) ?_); rintro e w1 ⟨rfl,hb1⟩; have HB1:=Lib.hid (((Below.refl w.heap.size w).alloc (Nat.le_refl _) _).trans (hb1.mono (by simp))); have c0:w1.cell? ⟨w.heap.size,0,none⟩=some (.int .i64 (S:Nat)):=(hb1.cell (p:=⟨w.heap.size,0,none⟩) (by simp)).trans (by simp [go_sem]); clear hb1)
  | fail)
 go_wp2
 go_ret
 exact ⟨rfl,HB1.out⟩
set_option maxHeartbeats 1600000 in
theorem fdb_LocksN (a b c:Int) (hr:rightS a b c=false) (w:World) :
  Calls Try.prog 13 #[.agg #[.int .i64 a,.int .i64 b,.int .i64 c]] w (Says (.int .i64 0) w):=by
 have HR:=Lib.hid fun W => book_Right a b c W
 rw [hr] at HR
 clear hr
 go_enter Try.func13,Try.ntmps13
 go_wp2_with (first
  | go_big_skip
  | (go_at_call 43; (with_reducible refine Calls.mono (HR.out _) ?_); rintro e w1 ⟨rfl,hb1⟩; have HB1:=Lib.hid (((Below.refl w.heap.size w).alloc (Nat.le_refl _) _).trans (hb1.mono (by simp))); clear hb1)
  | fail)
 go_wp2
 go_ret
 exact ⟨rfl,HB1.out⟩
end Go.Proofs.Ythloabdfkakehaa
