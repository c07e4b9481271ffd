/-
  Words and contracts that a statement's proof rests on (FeC, FeD, FeE). No statement is proved here.
-/
import Derived.Test.YthloabdfkakehaaFeI
set_option linter.unusedVariables false
set_option linter.unusedSimpArgs false
namespace Go.Proofs.Ythloabdfkakehaa
section
open Go.RowKit
section
variable {w:World} {lo b fb L:Nat} {E:Nat→Prop} {F:FcS} {m:MemS}
set_option maxRecDepth 20000 in
set_option maxHeartbeats 800000 in
theorem fdb_LearnP (who v:Int) (mc:Nat) (p:Int) (hp:¬ (0≤p∧p < 64)) (now:Nat) :
  Calls Try.prog 25 #[.pointer (some ⟨fb,0,none⟩),.int .i64 who,.agg #[.int .i64 v,.int .u64 (mc:Int)],.int .i64 p,.int .u32 (now:Int)] w (Says (.pointer none) w):=by
 have HRP:=Lib.hid fun W => fdb_rightPort p W
 rw [show (decide (0≤p) && decide (p < 64))=false by simp; omega] at HRP
 clear hp
 go_enter Try.func25,Try.ntmps25
 go_wp2_with fail
 refine (HRP.out _).mono ?_
 rintro e w1 ⟨rfl,hb1⟩
 obtain ⟨hB,_⟩:=key_vars hb1
 have HB:=Lib.hid hB
 clear hb1 hB
 go_wp2
 go_ret
 exact ⟨rfl,HB.out⟩
set_option maxRecDepth 20000 in
set_option maxHeartbeats 800000 in
theorem fdb_OrderP (who v:Int) (mc:Nat) (p:Int) (hp:¬ (0≤p∧p < 64)) (now:Nat) :
  Calls Try.prog 26 #[.pointer (some ⟨fb,0,none⟩),.int .i64 who,.agg #[.int .i64 v,.int .u64 (mc:Int)],.int .i64 p,.int .u32 (now:Int)] w (Says (.pointer none) w):=by
 have HRP:=Lib.hid fun W => fdb_rightPort p W
 rw [show (decide (0≤p) && decide (p < 64))=false by simp; omega] at HRP
 clear hp
 go_enter Try.func26,Try.ntmps26
 go_wp2_with fail
 refine (HRP.out _).mono ?_
 rintro e w1 ⟨rfl,hb1⟩
 obtain ⟨hB,_⟩:=key_vars hb1
 have HB:=Lib.hid hB
 clear hb1 hB
 go_wp2
 go_ret
 exact ⟨rfl,HB.out⟩
end
end
section
open Go.RowKit
section
variable {w:World} {lo b fb L:Nat} {E:Nat→Prop} {F:FcS} {m:MemS}
theorem age_vars {now lim:Nat} {t t2:TypeId}:Below w.heap.size w ((w.alloc (.cells #[.int .u32 (now:Int)] t)).alloc (.cells #[.int .u32 (lim:Int)] t2))∧VarIs ((w.alloc (.cells #[.int .u32 (now:Int)] t)).alloc (.cells #[.int .u32 (lim:Int)] t2)) (fun j => w.heap.size≤j∧j < w.heap.size + 2) w.heap.size [.int .u32 (now:Int)]∧VarIs ((w.alloc (.cells #[.int .u32 (now:Int)] t)).alloc (.cells #[.int .u32 (lim:Int)] t2)) (fun j => w.heap.size≤j∧j < w.heap.size + 2) (w.heap.size + 1) [.int .u32 (lim:Int)]:=by
 have b1:Below w.heap.size w (w.alloc (.cells #[.int .u32 (now:Int)] t)):=(Below.refl _ _).alloc (Nat.le_refl _) _
 have b2:=b1.alloc b1.size (.cells #[.int .u32 (lim:Int)] t2)
 refine ⟨b2,⟨⟨by omega,by omega⟩,fun i x hx => ?_⟩,⟨⟨by omega,by omega⟩,fun i x hx => ?_⟩⟩
 ·rw [World.cell?_alloc_lt _ _ ⟨w.heap.size,i,none⟩ (by simp <;> omega)]
  match i with
  | 0 => injection hx with hx; subst hx; simp [go_sem]
  | _ + 1 => cases hx
 ·match i with
  | 0 => injection hx with hx; subst hx; simp [go_sem]
  | _ + 1 => cases hx
set_option maxRecDepth 20000 in
set_option maxHeartbeats 1600000 in
theorem fdb_AgeN (hf:FdbAt w lo b fb F m) (who s n:Int) (hno:who < 0 ∨ hasF F s n=false) (now lim:Nat) :
  Calls Try.prog 28 #[.pointer (some ⟨fb,0,none⟩),.int .i64 who,.int .i64 s,.int .i64 n,.int .u32 (now:Int),.int .u32 (lim:Int)] w (Says (.pointer none) w):=by
 have HO:=Lib.hid fun (t t2:TypeId) fv => show Calls Try.prog 68 #[.pointer (some ⟨fb,0,none⟩),.int .i64 who,.int .i64 s,.int .i64 n,fv] ((w.alloc (.cells #[.int .u32 (now:Int)] t)).alloc (.cells #[.int .u32 (lim:Int)] t2)) (Says (.pointer none) w) from by
  obtain ⟨hb,_,_⟩:=age_vars (w:=w) (now:=now) (lim:=lim) (t:=t) (t2:=t2)
  exact (fdb_oneN (hf.below hb) who s n fv hno).mono fun e w2 h => ⟨h.1,hb.trans (h.2.mono hb.size)⟩
 clear hf hno
 go_enter Try.func28,Try.ntmps28
 go_wp2_with fail
 refine (HO.out _ _ _).mono ?_
 rintro e w1 ⟨rfl,hb1⟩
 go_wp2
 go_ret
 exact ⟨rfl,hb1⟩
end
end
section
open Go.RowKit
section
variable {w:World} {lo b fb L:Nat} {E:Nat→Prop} {F:FcS} {m:MemS}
set_option maxRecDepth 20000 in
set_option maxHeartbeats 1600000 in
theorem fdb_ofW (hf:FdbAt w lo b fb F m) (who:Int) (hw:who < 0) (v:Int) (mc:Nat) (hmc:mc < 18446744073709551616) (hr:rightK v mc=true) (fv:Value) :
  Calls Try.prog 49 #[.pointer (some ⟨fb,0,none⟩),.int .i64 who,.agg #[.int .i64 v,.int .u64 (mc:Int)],fv] w (Says (.pointer none) w):=by
 obtain ⟨s0,s1,s2,s3,s4,s5,s6⟩:=hf.at_
 have hS:=hf.fits.S
 have hB:=hf.fits.B
 have hp:=pl_bd v mc F.S F.B
 have HR:=Lib.hid fun W => key_Right v mc hmc W
 rw [hr] at HR
 have HP:=Lib.hid fun W => key_Place v mc hmc F.S F.B (by omega) (by omega) W
 have e1:plS v mc F.S F.B=(shN F v mc:Nat):=(Int.toNat_of_nonneg hp.1).symm
 have e2:plB v mc F.S F.B=(buN F v mc:Nat):=(Int.toNat_of_nonneg hp.2.2.1).symm
 have h3:shN F v mc < F.S:=by have:=hp.2.1 (by omega); omega
 have h4:buN F v mc < F.B:=by have:=hp.2.2.2 (by omega); omega
 rw [e1,e2] at HP
 generalize shN F v mc=s at *
 generalize buN F v mc=n at *
 have HO:=Lib.hid fun W (hb:Below w.heap.size w W) => show Calls Try.prog 68 #[.pointer (some ⟨fb,0,none⟩),.int .i64 who,.int .i64 (s:Nat),.int .i64 (n:Nat),fv] W (Says (.pointer none) w) from
  (fdb_oneN (hf.below hb) who _ _ fv (.inl hw)).mono fun e w2 h => ⟨h.1,hb.trans (h.2.mono hb.size)⟩
 have HS:=Lib.hid fun (W:World) (hB:Below w.heap.size w W) => show W.cell? ⟨fb,3,none⟩=some (.int .i64 (F.S:Nat))∧W.cell? ⟨fb,4,none⟩=some (.int .i64 (F.B:Nat)) from
  ⟨(hf.below hB).at_.2.2.2.1,(hf.below hB).at_.2.2.2.2.1⟩
 clear hf hS hB hp hr e1 e2 h3 h4 s0 s1 s2 s3 s4 s5 s6
 go_enter Try.func49,Try.ntmps49
 go_wp2_with (first
  | go_big_skip
  | (go_at_call 81; (with_reducible refine Calls.mono (HR.out _) ?_); rintro e w1 ⟨rfl,hb1⟩; have HB1:=Lib.hid (((Below.refl w.heap.size w).alloc (Nat.le_refl _) _).trans (hb1.mono (by simp))); have c0:w1.cell? ⟨w.heap.size,0,none⟩=some (.int .i64 v):=(hb1.cell (p:=⟨w.heap.size,0,none⟩) (by simp)).trans (by simp [go_sem]); have c1:w1.cell? ⟨w.heap.size,1,none⟩=some (.int .u64 (mc:Int)):=(hb1.cell (p:=⟨w.heap.size,1,none⟩) (by simp)).trans (by simp [go_sem]); have hlt9:w.heap.size < w1.heap.size:=Nat.lt_of_lt_of_le (by simp) hb1.size; clear hb1)
  | fail)
 have r9:=HS.out w1 HB1.out
 have HC9:=Lib.hid fun W (hb:Below w1.heap.size w1.drew W) => show W.cell? ⟨w.heap.size,0,none⟩=some (.int .i64 v)∧W.cell? ⟨w.heap.size,1,none⟩=some (.int .u64 (mc:Int)) from ⟨(hb.cell (p:=⟨w.heap.size,0,none⟩) hlt9).trans c0,(hb.cell (p:=⟨w.heap.size,1,none⟩) hlt9).trans c1⟩
 go_region_held3 (fun w' => (w'.cell? ⟨fb,3,none⟩=some (.int .i64 (F.S:Nat))∧w'.cell? ⟨fb,4,none⟩=some (.int .i64 (F.B:Nat)))∧w'.cell? ⟨w.heap.size,0,none⟩=some (.int .i64 v)∧w'.cell? ⟨w.heap.size,1,none⟩=some (.int .u64 (mc:Int))) (first | exact ⟨HS.out _ HB2.out,HC2.out⟩ | exact ⟨r9,c0,c1⟩ | go_keep) (first
  | (go_at_call 82; (with_reducible refine Calls.mono (HP.out _) ?_); rintro e w2 ⟨rfl,hb2⟩; have HB2:=Lib.hid (Below.trans (Below.drew HB1.out) (hb2.mono HB1.out.size)); have HC2:=Lib.hid (HC9.out _ hb2); clear hb2))
 go_wp2_with fail
 refine (HO.out _ HB2.out).mono ?_
 rintro e w3 ⟨rfl,hb3⟩
 go_wp2
 go_ret
 exact ⟨rfl,hb3⟩
set_option maxRecDepth 20000 in
set_option maxHeartbeats 1600000 in
theorem fdb_LookupW (hf:FdbAt w lo b fb F m) (who:Int) (hw:who < 0) (v:Int) (mc:Nat) (hmc:mc < 18446744073709551616) (hr:rightK v mc=true) :
  Calls Try.prog 17 #[.pointer (some ⟨fb,0,none⟩),.int .i64 who,.agg #[.int .i64 v,.int .u64 (mc:Int)]] w (Says (.pointer none) w):=by
 have HO:=Lib.hid fun W (hb:Below w.heap.size w W) fv => fdb_ofW (hf.below hb) who hw v mc hmc hr fv
 clear hr hf hw
 go_enter Try.func17,Try.ntmps17
 go_wp2_with fail
 refine (HO.out _ ((Below.refl _ _).alloc (Nat.le_refl _) _) _).mono ?_
 rintro e w1 ⟨rfl,hb1⟩
 have HB1:=Lib.hid (((Below.refl w.heap.size w).alloc (Nat.le_refl _) _).trans (hb1.mono (by simp)))
 clear hb1
 go_wp2
 go_ret
 exact ⟨rfl,HB1.out⟩
end
end
end Go.Proofs.Ythloabdfkakehaa
