/-
  Words and contracts that a statement's proof rests on (FgD). No statement is proved here.
-/
import Derived.Test.YthloabdfkakehaaFgE
import Derived.Test.YthloabdfkakehaaFeC
import Derived.Test.YthloabdfkakehaaFgF
set_option linter.unusedVariables false
set_option linter.unusedSimpArgs false
namespace Go.Proofs.Ythloabdfkakehaa
open Go.RowKit
section
variable {w:World} {lo b fb L:Nat} {F:FcS} {m:MemS}
def opV7 (o:OpN):Value:=.agg #[.int .i64 (o.K:Nat),.int .i64 o.v,.int .u64 (o.mc:Nat),.int .i64 o.port,.int .i64 o.vid,.int .u32 (o.now:Nat),.int .u32 (o.old:Nat)]
theorem Began.up {w1 w2:World} {a:FaS} {e:Ending} (hb:Below w.heap.size w w1) (h:Began lo b fb L noE F m a w1 e w2) (hL:L≤w.heap.size):Began lo b fb L noE F m a w e w2 :=
 h.from hb (fun k hk => False.elim hk) hL
set_option maxRecDepth 20000 in
set_option maxHeartbeats 1600000 in
theorem law12_Begin0 (hf:FdbAt w lo b fb F m) (who:Int) (hw:0≤who) (v:Int) (mc:Nat) (hmc:mc < 18446744073709551616) (hk:rightK v mc=true) (port vid:Int) (now old:Nat)  (hL:L≤w.heap.size) :
  Calls Try.prog 74 #[.pointer (some ⟨fb,0,none⟩),.int .i64 who,.agg #[.int .i64 0,.int .i64 v,.int .u64 (mc:Nat),.int .i64 port,.int .i64 vid,.int .u32 (now:Nat),.int .u32 (old:Nat)]] w (Began lo b fb L noE F m (newA who (wkO 0 v mc port vid now old) (F.lk + shN F v mc) 1 (shN F v mc * F.B + buN F v mc) 1 1) w):=by
 have HC:=Lib.hid fun W (hb:Below w.heap.size w W) => show Calls Try.prog 17 #[.pointer (some ⟨fb,0,none⟩),.int .i64 who,.agg #[.int .i64 v,.int .u64 (mc:Int)]] W (Began lo b fb L noE F m (newA who (wkO 0 v mc port vid now old) (F.lk + shN F v mc) 1 (shN F v mc * F.B + buN F v mc) 1 1) w) from
  (fdb_LookupY (hf.below hb) who hw v mc hmc hk (Nat.le_trans hL hb.size)).mono fun e w2 h => Began.up hb h hL
 have HT:=Lib.hid fun W => law8_ToK v (mc:Int) W
 clear hf hw hmc hk hL
 generalize newA who (wkO 0 v mc port vid now old) (F.lk + shN F v mc) 1 (shN F v mc * F.B + buN F v mc) 1 1=A9 at *
 go_enter Try.func74,Try.ntmps74
 go_wp2_with fail
 refine (HT.out _).mono ?_
 rintro e w1 ⟨rfl,hb1⟩
 have HB1:=Lib.hid (((Below.refl w.heap.size w).alloc (Nat.le_refl _) _).trans (hb1.mono (by simp)))
 have c0:w1.cell? ⟨w.heap.size,0,none⟩=some (.int .i64 0):=(hb1.cell (p:=⟨w.heap.size,0,none⟩) (by simp)).trans (by simp [go_sem])
 have c1:w1.cell? ⟨w.heap.size,1,none⟩=some (.int .i64 v):=(hb1.cell (p:=⟨w.heap.size,1,none⟩) (by simp)).trans (by simp [go_sem])
 have c2:w1.cell? ⟨w.heap.size,2,none⟩=some (.int .u64 (mc:Nat)):=(hb1.cell (p:=⟨w.heap.size,2,none⟩) (by simp)).trans (by simp [go_sem])
 have c3:w1.cell? ⟨w.heap.size,3,none⟩=some (.int .i64 port):=(hb1.cell (p:=⟨w.heap.size,3,none⟩) (by simp)).trans (by simp [go_sem])
 have c4:w1.cell? ⟨w.heap.size,4,none⟩=some (.int .i64 vid):=(hb1.cell (p:=⟨w.heap.size,4,none⟩) (by simp)).trans (by simp [go_sem])
 have c5:w1.cell? ⟨w.heap.size,5,none⟩=some (.int .u32 (now:Nat)):=(hb1.cell (p:=⟨w.heap.size,5,none⟩) (by simp)).trans (by simp [go_sem])
 have c6:w1.cell? ⟨w.heap.size,6,none⟩=some (.int .u32 (old:Nat)):=(hb1.cell (p:=⟨w.heap.size,6,none⟩) (by simp)).trans (by simp [go_sem])
 have hlt9:w.heap.size < w1.heap.size:=Nat.lt_of_lt_of_le (by simp) hb1.size
 have hne9:w.heap.size ≠ w1.heap.size:=by omega
 clear hb1
 go_wp2_with fail
 refine (HC.out _ (by (repeat' (first | (with_reducible exact HB1.out) | (with_reducible refine Below.setCell ?_ ?_ _) | (with_reducible refine Below.alloc ?_ ?_ _) | (with_reducible exact HB1.out.size) | go_size)))).mono ?_
 rintro e w2 ⟨ab,rfl,hz,hb2,hact⟩
 have HR:Hid (Began lo b fb L noE F m A9 w (.returned (.pointer (some ⟨ab,0,none⟩))) w2):=⟨ab,rfl,hz,hb2,hact⟩
 clear hz hb2 hact
 go_wp2
 go_ret
 exact HR.out
set_option maxRecDepth 20000 in
set_option maxHeartbeats 1600000 in
theorem law12_Begin1 (hf:FdbAt w lo b fb F m) (who:Int) (hw:0≤who) (v:Int) (mc:Nat) (hmc:mc < 18446744073709551616) (hk:rightK v mc=true) (port vid:Int) (now old:Nat) (hpo:0≤port∧port < 64) (hL:L≤w.heap.size) :
  Calls Try.prog 74 #[.pointer (some ⟨fb,0,none⟩),.int .i64 who,.agg #[.int .i64 1,.int .i64 v,.int .u64 (mc:Nat),.int .i64 port,.int .i64 vid,.int .u32 (now:Nat),.int .u32 (old:Nat)]] w (Began lo b fb L noE F m (newA who (wkO 1 v mc port vid now old) (F.lk + shN F v mc) 1 (shN F v mc * F.B + buN F v mc) 1 2) w):=by
 have HC:=Lib.hid fun W (hb:Below w.heap.size w W) => show Calls Try.prog 25 #[.pointer (some ⟨fb,0,none⟩),.int .i64 who,.agg #[.int .i64 v,.int .u64 (mc:Int)],.int .i64 port,.int .u32 (now:Nat)] W (Began lo b fb L noE F m (newA who (wkO 1 v mc port vid now old) (F.lk + shN F v mc) 1 (shN F v mc * F.B + buN F v mc) 1 2) w) from
  (fdb_LearnY (hf.below hb) who hw v mc hmc hk port hpo now (Nat.le_trans hL hb.size)).mono fun e w2 h => Began.up hb h hL
 have HT:=Lib.hid fun W => law8_ToK v (mc:Int) W
 clear hf hw hmc hk hL hpo
 generalize newA who (wkO 1 v mc port vid now old) (F.lk + shN F v mc) 1 (shN F v mc * F.B + buN F v mc) 1 2=A9 at *
 go_enter Try.func74,Try.ntmps74
 go_wp2_with fail
 refine (HT.out _).mono ?_
 rintro e w1 ⟨rfl,hb1⟩
 have HB1:=Lib.hid (((Below.refl w.heap.size w).alloc (Nat.le_refl _) _).trans (hb1.mono (by simp)))
 have c0:w1.cell? ⟨w.heap.size,0,none⟩=some (.int .i64 1):=(hb1.cell (p:=⟨w.heap.size,0,none⟩) (by simp)).trans (by simp [go_sem])
 have c1:w1.cell? ⟨w.heap.size,1,none⟩=some (.int .i64 v):=(hb1.cell (p:=⟨w.heap.size,1,none⟩) (by simp)).trans (by simp [go_sem])
 have c2:w1.cell? ⟨w.heap.size,2,none⟩=some (.int .u64 (mc:Nat)):=(hb1.cell (p:=⟨w.heap.size,2,none⟩) (by simp)).trans (by simp [go_sem])
 have c3:w1.cell? ⟨w.heap.size,3,none⟩=some (.int .i64 port):=(hb1.cell (p:=⟨w.heap.size,3,none⟩) (by simp)).trans (by simp [go_sem])
 have c4:w1.cell? ⟨w.heap.size,4,none⟩=some (.int .i64 vid):=(hb1.cell (p:=⟨w.heap.size,4,none⟩) (by simp)).trans (by simp [go_sem])
 have c5:w1.cell? ⟨w.heap.size,5,none⟩=some (.int .u32 (now:Nat)):=(hb1.cell (p:=⟨w.heap.size,5,none⟩) (by simp)).trans (by simp [go_sem])
 have c6:w1.cell? ⟨w.heap.size,6,none⟩=some (.int .u32 (old:Nat)):=(hb1.cell (p:=⟨w.heap.size,6,none⟩) (by simp)).trans (by simp [go_sem])
 have hlt9:w.heap.size < w1.heap.size:=Nat.lt_of_lt_of_le (by simp) hb1.size
 have hne9:w.heap.size ≠ w1.heap.size:=by omega
 clear hb1
 go_wp2_with fail
 refine (HC.out _ (by (repeat' (first | (with_reducible exact HB1.out) | (with_reducible refine Below.setCell ?_ ?_ _) | (with_reducible refine Below.alloc ?_ ?_ _) | (with_reducible exact HB1.out.size) | go_size)))).mono ?_
 rintro e w2 ⟨ab,rfl,hz,hb2,hact⟩
 have HR:Hid (Began lo b fb L noE F m A9 w (.returned (.pointer (some ⟨ab,0,none⟩))) w2):=⟨ab,rfl,hz,hb2,hact⟩
 clear hz hb2 hact
 go_wp2
 go_ret
 exact HR.out
set_option maxRecDepth 20000 in
set_option maxHeartbeats 1600000 in
theorem law12_Begin2 (hf:FdbAt w lo b fb F m) (who:Int) (hw:0≤who) (v:Int) (mc:Nat) (hmc:mc < 18446744073709551616) (hk:rightK v mc=true) (port vid:Int) (now old:Nat) (hpo:0≤port∧port < 64) (hL:L≤w.heap.size) :
  Calls Try.prog 74 #[.pointer (some ⟨fb,0,none⟩),.int .i64 who,.agg #[.int .i64 2,.int .i64 v,.int .u64 (mc:Nat),.int .i64 port,.int .i64 vid,.int .u32 (now:Nat),.int .u32 (old:Nat)]] w (Began lo b fb L noE F m (newA who (wkO 2 v mc port vid now old) (F.lk + shN F v mc) 1 (shN F v mc * F.B + buN F v mc) 1 2) w):=by
 have HC:=Lib.hid fun W (hb:Below w.heap.size w W) => show Calls Try.prog 25 #[.pointer (some ⟨fb,0,none⟩),.int .i64 who,.agg #[.int .i64 v,.int .u64 (mc:Int)],.int .i64 port,.int .u32 (now:Nat)] W (Began lo b fb L noE F m (newA who (wkO 2 v mc port vid now old) (F.lk + shN F v mc) 1 (shN F v mc * F.B + buN F v mc) 1 2) w) from
  (fdb_LearnY (hf.below hb) who hw v mc hmc hk port hpo now (Nat.le_trans hL hb.size)).mono fun e w2 h => Began.up hb h hL
 have HT:=Lib.hid fun W => law8_ToK v (mc:Int) W
 clear hf hw hmc hk hL hpo
 generalize newA who (wkO 2 v mc port vid now old) (F.lk + shN F v mc) 1 (shN F v mc * F.B + buN F v mc) 1 2=A9 at *
 go_enter Try.func74,Try.ntmps74
 go_wp2_with fail
 refine (HT.out _).mono ?_
 rintro e w1 ⟨rfl,hb1⟩
 have HB1:=Lib.hid (((Below.refl w.heap.size w).alloc (Nat.le_refl _) _).trans (hb1.mono (by simp)))
 have c0:w1.cell? ⟨w.heap.size,0,none⟩=some (.int .i64 2):=(hb1.cell (p:=⟨w.heap.size,0,none⟩) (by simp)).trans (by simp [go_sem])
 have c1:w1.cell? ⟨w.heap.size,1,none⟩=some (.int .i64 v):=(hb1.cell (p:=⟨w.heap.size,1,none⟩) (by simp)).trans (by simp [go_sem])
 have c2:w1.cell? ⟨w.heap.size,2,none⟩=some (.int .u64 (mc:Nat)):=(hb1.cell (p:=⟨w.heap.size,2,none⟩) (by simp)).trans (by simp [go_sem])
 have c3:w1.cell? ⟨w.heap.size,3,none⟩=some (.int .i64 port):=(hb1.cell (p:=⟨w.heap.size,3,none⟩) (by simp)).trans (by simp [go_sem])
 have c4:w1.cell? ⟨w.heap.size,4,none⟩=some (.int .i64 vid):=(hb1.cell (p:=⟨w.heap.size,4,none⟩) (by simp)).trans (by simp [go_sem])
 have c5:w1.cell? ⟨w.heap.size,5,none⟩=some (.int .u32 (now:Nat)):=(hb1.cell (p:=⟨w.heap.size,5,none⟩) (by simp)).trans (by simp [go_sem])
 have c6:w1.cell? ⟨w.heap.size,6,none⟩=some (.int .u32 (old:Nat)):=(hb1.cell (p:=⟨w.heap.size,6,none⟩) (by simp)).trans (by simp [go_sem])
 have hlt9:w.heap.size < w1.heap.size:=Nat.lt_of_lt_of_le (by simp) hb1.size
 have hne9:w.heap.size ≠ w1.heap.size:=by omega
 clear hb1
 go_wp2_with fail
 refine (HC.out _ (by (repeat' (first | (with_reducible exact HB1.out) | (with_reducible refine Below.setCell ?_ ?_ _) | (with_reducible refine Below.alloc ?_ ?_ _) | (with_reducible exact HB1.out.size) | go_size)))).mono ?_
 rintro e w2 ⟨ab,rfl,hz,hb2,hact⟩
 have HR:Hid (Began lo b fb L noE F m A9 w (.returned (.pointer (some ⟨ab,0,none⟩))) w2):=⟨ab,rfl,hz,hb2,hact⟩
 clear hz hb2 hact
 go_wp2
 go_ret
 exact HR.out
set_option maxRecDepth 20000 in
set_option maxHeartbeats 1600000 in
theorem law12_Begin3 (hf:FdbAt w lo b fb F m) (who:Int) (hw:0≤who) (v:Int) (mc:Nat) (hmc:mc < 18446744073709551616) (hk:rightK v mc=true) (port vid:Int) (now old:Nat) (hpo:0≤port∧port < 64) (hL:L≤w.heap.size) :
  Calls Try.prog 74 #[.pointer (some ⟨fb,0,none⟩),.int .i64 who,.agg #[.int .i64 3,.int .i64 v,.int .u64 (mc:Nat),.int .i64 port,.int .i64 vid,.int .u32 (now:Nat),.int .u32 (old:Nat)]] w (Began lo b fb L noE F m (newA who (wkO 3 v mc port vid now old) (F.lk + shN F v mc) 1 (shN F v mc * F.B + buN F v mc) 1 2) w):=by
 have HC:=Lib.hid fun W (hb:Below w.heap.size w W) => show Calls Try.prog 26 #[.pointer (some ⟨fb,0,none⟩),.int .i64 who,.agg #[.int .i64 v,.int .u64 (mc:Int)],.int .i64 port,.int .u32 (now:Nat)] W (Began lo b fb L noE F m (newA who (wkO 3 v mc port vid now old) (F.lk + shN F v mc) 1 (shN F v mc * F.B + buN F v mc) 1 2) w) from
  (fdb_OrderY (hf.below hb) who hw v mc hmc hk port hpo now (Nat.le_trans hL hb.size)).mono fun e w2 h => Began.up hb h hL
 have HT:=Lib.hid fun W => law8_ToK v (mc:Int) W
 clear hf hw hmc hk hL hpo
 generalize newA who (wkO 3 v mc port vid now old) (F.lk + shN F v mc) 1 (shN F v mc * F.B + buN F v mc) 1 2=A9 at *
 go_enter Try.func74,Try.ntmps74
 go_wp2_with fail
 refine (HT.out _).mono ?_
 rintro e w1 ⟨rfl,hb1⟩
 have HB1:=Lib.hid (((Below.refl w.heap.size w).alloc (Nat.le_refl _) _).trans (hb1.mono (by simp)))
 have c0:w1.cell? ⟨w.heap.size,0,none⟩=some (.int .i64 3):=(hb1.cell (p:=⟨w.heap.size,0,none⟩) (by simp)).trans (by simp [go_sem])
 have c1:w1.cell? ⟨w.heap.size,1,none⟩=some (.int .i64 v):=(hb1.cell (p:=⟨w.heap.size,1,none⟩) (by simp)).trans (by simp [go_sem])
 have c2:w1.cell? ⟨w.heap.size,2,none⟩=some (.int .u64 (mc:Nat)):=(hb1.cell (p:=⟨w.heap.size,2,none⟩) (by simp)).trans (by simp [go_sem])
 have c3:w1.cell? ⟨w.heap.size,3,none⟩=some (.int .i64 port):=(hb1.cell (p:=⟨w.heap.size,3,none⟩) (by simp)).trans (by simp [go_sem])
 have c4:w1.cell? ⟨w.heap.size,4,none⟩=some (.int .i64 vid):=(hb1.cell (p:=⟨w.heap.size,4,none⟩) (by simp)).trans (by simp [go_sem])
 have c5:w1.cell? ⟨w.heap.size,5,none⟩=some (.int .u32 (now:Nat)):=(hb1.cell (p:=⟨w.heap.size,5,none⟩) (by simp)).trans (by simp [go_sem])
 have c6:w1.cell? ⟨w.heap.size,6,none⟩=some (.int .u32 (old:Nat)):=(hb1.cell (p:=⟨w.heap.size,6,none⟩) (by simp)).trans (by simp [go_sem])
 have hlt9:w.heap.size < w1.heap.size:=Nat.lt_of_lt_of_le (by simp) hb1.size
 have hne9:w.heap.size ≠ w1.heap.size:=by omega
 clear hb1
 go_wp2_with fail
 refine (HC.out _ (by (repeat' (first | (with_reducible exact HB1.out) | (with_reducible refine Below.setCell ?_ ?_ _) | (with_reducible refine Below.alloc ?_ ?_ _) | (with_reducible exact HB1.out.size) | go_size)))).mono ?_
 rintro e w2 ⟨ab,rfl,hz,hb2,hact⟩
 have HR:Hid (Began lo b fb L noE F m A9 w (.returned (.pointer (some ⟨ab,0,none⟩))) w2):=⟨ab,rfl,hz,hb2,hact⟩
 clear hz hb2 hact
 go_wp2
 go_ret
 exact HR.out
set_option maxRecDepth 20000 in
set_option maxHeartbeats 1600000 in
theorem law12_Begin4 (hf:FdbAt w lo b fb F m) (who:Int) (hw:0≤who) (v:Int) (mc:Nat) (hmc:mc < 18446744073709551616) (hk:rightK v mc=true) (port vid:Int) (now old:Nat)  (hL:L≤w.heap.size) :
  Calls Try.prog 74 #[.pointer (some ⟨fb,0,none⟩),.int .i64 who,.agg #[.int .i64 4,.int .i64 v,.int .u64 (mc:Nat),.int .i64 port,.int .i64 vid,.int .u32 (now:Nat),.int .u32 (old:Nat)]] w (Began lo b fb L noE F m (newA who (wkO 4 v mc port vid now old) (F.lk + shN F v mc) 1 (shN F v mc * F.B + buN F v mc) 1 2) w):=by
 have HC:=Lib.hid fun W (hb:Below w.heap.size w W) => show Calls Try.prog 27 #[.pointer (some ⟨fb,0,none⟩),.int .i64 who,.agg #[.int .i64 v,.int .u64 (mc:Int)]] W (Began lo b fb L noE F m (newA who (wkO 4 v mc port vid now old) (F.lk + shN F v mc) 1 (shN F v mc * F.B + buN F v mc) 1 2) w) from
  (fdb_DropY (hf.below hb) who hw v mc hmc hk (Nat.le_trans hL hb.size)).mono fun e w2 h => Began.up hb h hL
 have HT:=Lib.hid fun W => law8_ToK v (mc:Int) W
 clear hf hw hmc hk hL
 generalize newA who (wkO 4 v mc port vid now old) (F.lk + shN F v mc) 1 (shN F v mc * F.B + buN F v mc) 1 2=A9 at *
 go_enter Try.func74,Try.ntmps74
 go_wp2_with fail
 refine (HT.out _).mono ?_
 rintro e w1 ⟨rfl,hb1⟩
 have HB1:=Lib.hid (((Below.refl w.heap.size w).alloc (Nat.le_refl _) _).trans (hb1.mono (by simp)))
 have c0:w1.cell? ⟨w.heap.size,0,none⟩=some (.int .i64 4):=(hb1.cell (p:=⟨w.heap.size,0,none⟩) (by simp)).trans (by simp [go_sem])
 have c1:w1.cell? ⟨w.heap.size,1,none⟩=some (.int .i64 v):=(hb1.cell (p:=⟨w.heap.size,1,none⟩) (by simp)).trans (by simp [go_sem])
 have c2:w1.cell? ⟨w.heap.size,2,none⟩=some (.int .u64 (mc:Nat)):=(hb1.cell (p:=⟨w.heap.size,2,none⟩) (by simp)).trans (by simp [go_sem])
 have c3:w1.cell? ⟨w.heap.size,3,none⟩=some (.int .i64 port):=(hb1.cell (p:=⟨w.heap.size,3,none⟩) (by simp)).trans (by simp [go_sem])
 have c4:w1.cell? ⟨w.heap.size,4,none⟩=some (.int .i64 vid):=(hb1.cell (p:=⟨w.heap.size,4,none⟩) (by simp)).trans (by simp [go_sem])
 have c5:w1.cell? ⟨w.heap.size,5,none⟩=some (.int .u32 (now:Nat)):=(hb1.cell (p:=⟨w.heap.size,5,none⟩) (by simp)).trans (by simp [go_sem])
 have c6:w1.cell? ⟨w.heap.size,6,none⟩=some (.int .u32 (old:Nat)):=(hb1.cell (p:=⟨w.heap.size,6,none⟩) (by simp)).trans (by simp [go_sem])
 have hlt9:w.heap.size < w1.heap.size:=Nat.lt_of_lt_of_le (by simp) hb1.size
 have hne9:w.heap.size ≠ w1.heap.size:=by omega
 clear hb1
 go_wp2_with fail
 refine (HC.out _ (by (repeat' (first | (with_reducible exact HB1.out) | (with_reducible refine Below.setCell ?_ ?_ _) | (with_reducible refine Below.alloc ?_ ?_ _) | (with_reducible exact HB1.out.size) | go_size)))).mono ?_
 rintro e w2 ⟨ab,rfl,hz,hb2,hact⟩
 have HR:Hid (Began lo b fb L noE F m A9 w (.returned (.pointer (some ⟨ab,0,none⟩))) w2):=⟨ab,rfl,hz,hb2,hact⟩
 clear hz hb2 hact
 go_wp2
 go_ret
 exact HR.out
set_option maxRecDepth 20000 in
set_option maxHeartbeats 1600000 in
theorem law12_Begin5 (hf:FdbAt w lo b fb F m) (who:Int) (hw:0≤who) (v:Int) (mc:Nat) (hmc:mc < 18446744073709551616) (hk:rightK v mc=true) (s n:Nat) (hs:s < F.S) (hn:n < F.B) (now old:Nat)  (hL:L≤w.heap.size) :
  Calls Try.prog 74 #[.pointer (some ⟨fb,0,none⟩),.int .i64 who,.agg #[.int .i64 5,.int .i64 v,.int .u64 (mc:Nat),.int .i64 (s:Int),.int .i64 (n:Int),.int .u32 (now:Nat),.int .u32 (old:Nat)]] w (Began lo b fb L noE F m (newA who (wkO 5 v mc (s:Int) (n:Int) now old) (F.lk + s) 1 (s * F.B + n) 1 2) w):=by
 have HC:=Lib.hid fun W (hb:Below w.heap.size w W) => show Calls Try.prog 28 #[.pointer (some ⟨fb,0,none⟩),.int .i64 who,.int .i64 (s:Nat),.int .i64 (n:Nat),.int .u32 (now:Nat),.int .u32 (old:Nat)] W (Began lo b fb L noE F m (newA who (wkO 5 v mc (s:Int) (n:Int) now old) (F.lk + s) 1 (s * F.B + n) 1 2) w) from
  (fdb_AgeY (hf.below hb) who hw s n hs hn now old (Nat.le_trans hL hb.size)).mono fun e w2 h => Began.up hb h hL
 have HT:=Lib.hid fun W => law8_ToK v (mc:Int) W
 clear hf hw hmc hk hL hs hn
 generalize newA who (wkO 5 v mc (s:Int) (n:Int) now old) (F.lk + s) 1 (s * F.B + n) 1 2=A9 at *
 go_enter Try.func74,Try.ntmps74
 go_wp2_with fail
 refine (HT.out _).mono ?_
 rintro e w1 ⟨rfl,hb1⟩
 have HB1:=Lib.hid (((Below.refl w.heap.size w).alloc (Nat.le_refl _) _).trans (hb1.mono (by simp)))
 have c0:w1.cell? ⟨w.heap.size,0,none⟩=some (.int .i64 5):=(hb1.cell (p:=⟨w.heap.size,0,none⟩) (by simp)).trans (by simp [go_sem])
 have c1:w1.cell? ⟨w.heap.size,1,none⟩=some (.int .i64 v):=(hb1.cell (p:=⟨w.heap.size,1,none⟩) (by simp)).trans (by simp [go_sem])
 have c2:w1.cell? ⟨w.heap.size,2,none⟩=some (.int .u64 (mc:Nat)):=(hb1.cell (p:=⟨w.heap.size,2,none⟩) (by simp)).trans (by simp [go_sem])
 have c3:w1.cell? ⟨w.heap.size,3,none⟩=some (.int .i64 (s:Int)):=(hb1.cell (p:=⟨w.heap.size,3,none⟩) (by simp)).trans (by simp [go_sem])
 have c4:w1.cell? ⟨w.heap.size,4,none⟩=some (.int .i64 (n:Int)):=(hb1.cell (p:=⟨w.heap.size,4,none⟩) (by simp)).trans (by simp [go_sem])
 have c5:w1.cell? ⟨w.heap.size,5,none⟩=some (.int .u32 (now:Nat)):=(hb1.cell (p:=⟨w.heap.size,5,none⟩) (by simp)).trans (by simp [go_sem])
 have c6:w1.cell? ⟨w.heap.size,6,none⟩=some (.int .u32 (old:Nat)):=(hb1.cell (p:=⟨w.heap.size,6,none⟩) (by simp)).trans (by simp [go_sem])
 have hlt9:w.heap.size < w1.heap.size:=Nat.lt_of_lt_of_le (by simp) hb1.size
 have hne9:w.heap.size ≠ w1.heap.size:=by omega
 clear hb1
 go_wp2_with fail
 refine (HC.out _ (by (repeat' (first | (with_reducible exact HB1.out) | (with_reducible refine Below.setCell ?_ ?_ _) | (with_reducible refine Below.alloc ?_ ?_ _) | (with_reducible exact HB1.out.size) | go_size)))).mono ?_
 rintro e w2 ⟨ab,rfl,hz,hb2,hact⟩
 have HR:Hid (Began lo b fb L noE F m A9 w (.returned (.pointer (some ⟨ab,0,none⟩))) w2):=⟨ab,rfl,hz,hb2,hact⟩
 clear hz hb2 hact
 go_wp2
 go_ret
 exact HR.out
set_option maxRecDepth 20000 in
set_option maxHeartbeats 1600000 in
theorem law12_Begin6 (hf:FdbAt w lo b fb F m) (who:Int) (hw:0≤who) (v:Int) (mc:Nat) (hmc:mc < 18446744073709551616) (hk:rightK v mc=true) (port vid:Int) (now old:Nat)  (hL:L≤w.heap.size) :
  Calls Try.prog 74 #[.pointer (some ⟨fb,0,none⟩),.int .i64 who,.agg #[.int .i64 6,.int .i64 v,.int .u64 (mc:Nat),.int .i64 port,.int .i64 vid,.int .u32 (now:Nat),.int .u32 (old:Nat)]] w (Began lo b fb L noE F m (newA who (wkO 6 v mc port vid now old) F.lk F.S 0 (F.S * F.B) 2) w):=by
 have HC:=Lib.hid fun W (hb:Below w.heap.size w W) => show Calls Try.prog 29 #[.pointer (some ⟨fb,0,none⟩),.int .i64 who,.agg #[.int .i64 port,.int .i64 vid]] W (Began lo b fb L noE F m (newA who (wkO 6 v mc port vid now old) F.lk F.S 0 (F.S * F.B) 2) w) from
  (fdb_FlushY (hf.below hb) who hw port vid (Nat.le_trans hL hb.size)).mono fun e w2 h => Began.up hb h hL
 have HT:=Lib.hid fun W => law8_ToK v (mc:Int) W
 clear hf hw hmc hk hL
 generalize newA who (wkO 6 v mc port vid now old) F.lk F.S 0 (F.S * F.B) 2=A9 at *
 go_enter Try.func74,Try.ntmps74
 go_wp2_with fail
 refine (HT.out _).mono ?_
 rintro e w1 ⟨rfl,hb1⟩
 have HB1:=Lib.hid (((Below.refl w.heap.size w).alloc (Nat.le_refl _) _).trans (hb1.mono (by simp)))
 have c0:w1.cell? ⟨w.heap.size,0,none⟩=some (.int .i64 6):=(hb1.cell (p:=⟨w.heap.size,0,none⟩) (by simp)).trans (by simp [go_sem])
 have c1:w1.cell? ⟨w.heap.size,1,none⟩=some (.int .i64 v):=(hb1.cell (p:=⟨w.heap.size,1,none⟩) (by simp)).trans (by simp [go_sem])
 have c2:w1.cell? ⟨w.heap.size,2,none⟩=some (.int .u64 (mc:Nat)):=(hb1.cell (p:=⟨w.heap.size,2,none⟩) (by simp)).trans (by simp [go_sem])
 have c3:w1.cell? ⟨w.heap.size,3,none⟩=some (.int .i64 port):=(hb1.cell (p:=⟨w.heap.size,3,none⟩) (by simp)).trans (by simp [go_sem])
 have c4:w1.cell? ⟨w.heap.size,4,none⟩=some (.int .i64 vid):=(hb1.cell (p:=⟨w.heap.size,4,none⟩) (by simp)).trans (by simp [go_sem])
 have c5:w1.cell? ⟨w.heap.size,5,none⟩=some (.int .u32 (now:Nat)):=(hb1.cell (p:=⟨w.heap.size,5,none⟩) (by simp)).trans (by simp [go_sem])
 have c6:w1.cell? ⟨w.heap.size,6,none⟩=some (.int .u32 (old:Nat)):=(hb1.cell (p:=⟨w.heap.size,6,none⟩) (by simp)).trans (by simp [go_sem])
 have hlt9:w.heap.size < w1.heap.size:=Nat.lt_of_lt_of_le (by simp) hb1.size
 have hne9:w.heap.size ≠ w1.heap.size:=by omega
 clear hb1
 go_wp2_with fail
 refine (HC.out _ (by (repeat' (first | (with_reducible exact HB1.out) | (with_reducible refine Below.setCell ?_ ?_ _) | (with_reducible refine Below.alloc ?_ ?_ _) | (with_reducible exact HB1.out.size) | go_size)))).mono ?_
 rintro e w2 ⟨ab,rfl,hz,hb2,hact⟩
 have HR:Hid (Began lo b fb L noE F m A9 w (.returned (.pointer (some ⟨ab,0,none⟩))) w2):=⟨ab,rfl,hz,hb2,hact⟩
 clear hz hb2 hact
 go_wp2
 go_ret
 exact HR.out
theorem law12_Begin (hf:FdbAt w lo b fb F m) {who:Int} (hw:0≤who) {o:OpN} (ho:OpOk F o) (hL:L≤w.heap.size) :
  Calls Try.prog 74 #[.pointer (some ⟨fb,0,none⟩),.int .i64 who,opV7 o] w (Began lo b fb L noE F m (begA F who o) w):=by
 obtain ⟨K,v,mc,port,vid,now,old⟩:=o
 obtain ⟨hK,hk,hmc,hpo,hag,hno,hol⟩:=ho
 dsimp only at *
 rcases (show K=0 ∨ K=1 ∨ K=2 ∨ K=3 ∨ K=4 ∨ K=5 ∨ K=6 by omega) with rfl | rfl | rfl | rfl | rfl | rfl | rfl
 ·exact law12_Begin0 hf who hw v mc hmc hk port vid now old hL
 ·exact law12_Begin1 hf who hw v mc hmc hk port vid now old (hpo (by omega) (by omega)) hL
 ·exact law12_Begin2 hf who hw v mc hmc hk port vid now old (hpo (by omega) (by omega)) hL
 ·exact law12_Begin3 hf who hw v mc hmc hk port vid now old (hpo (by omega) (by omega)) hL
 ·exact law12_Begin4 hf who hw v mc hmc hk port vid now old hL
 ·obtain ⟨⟨h1,h2⟩,h3,h4⟩:=hag rfl
  obtain ⟨s,rfl⟩:=Int.eq_ofNat_of_zero_le h1
  obtain ⟨n,rfl⟩:=Int.eq_ofNat_of_zero_le h3
  have:=law12_Begin5 (L:=L) hf who hw v mc hmc hk s n (by omega) (by omega) now old hL
  unfold begA
  rw [if_pos rfl]
  exact this
 ·exact law12_Begin6 hf who hw v mc hmc hk port vid now old hL
end
end Go.Proofs.Ythloabdfkakehaa
