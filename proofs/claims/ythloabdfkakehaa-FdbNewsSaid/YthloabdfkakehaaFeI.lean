/-
  Words and contracts that a statement's proof rests on (FeA, FeB, FeI). No statement is proved here.
-/
import Derived.Test.YthloabdfkakehaaFdL
import Derived.Test.YthloabdfkakehaaFdZ
import Derived.Test.YthloabdfkakehaaFeG
set_option linter.unusedVariables false
set_option linter.unusedSimpArgs false
namespace Go.Proofs.Ythloabdfkakehaa
section
open Go.RowKit
section
variable {w:World} {lo b fb L:Nat} {E:Nat→Prop} {F:FcS} {m:MemS}
def noE (k:Nat):Prop:=False
theorem key_var {v:Int} {mc:Nat} {t:TypeId}:VarIs (w.alloc (.cells #[.int .i64 v,.int .u64 (mc:Int)] t)) (fun k => k=w.heap.size) w.heap.size [.int .i64 v,.int .u64 (mc:Int)] :=
 ⟨rfl,fun i x hx => by
  match i with
  | 0 => injection hx with hx; subst hx; simp [go_sem]
  | 1 => injection hx with hx; subst hx; simp [go_sem]
  | _ + 2 => cases hx⟩
theorem Began.from {w1 w2:World} {E1:Nat→Prop} {a:FaS} {e:Ending} (hb:Below w.heap.size w w1) (h:Began lo b fb L E1 F m a w1 e w2) (hE:∀ k,E1 k→w.heap.size≤k∧k < w1.heap.size) (hL:L≤w.heap.size):Began lo b fb L noE F m a w e w2:=by
 obtain ⟨ab,h1,h2,h3,fv,lv,wv,h4⟩:=h
 have hz:=hb.size
 have hz2:=h3.size
 exact ⟨ab,h1,by omega,hb.trans (h3.mono hz),fv,lv,wv,h4.grow (fun k hk => by
  rcases hk with hk | hk
  ·have:=hE k hk; exact .inr ⟨this.1,by omega⟩
  ·exact .inr ⟨by omega,hk.2⟩) fun k hk => by
  rcases hk with hk | hk
  ·cases hk
  ·omega⟩
set_option maxRecDepth 20000 in
set_option maxHeartbeats 1600000 in
theorem fdb_LookupY (hf:FdbAt w lo b fb F m) (who:Int) (hw:0≤who) (v:Int) (mc:Nat) (hmc:mc < 18446744073709551616) (hr:rightK v mc=true) (hLw:L≤w.heap.size) :
  Calls Try.prog 17 #[.pointer (some ⟨fb,0,none⟩),.int .i64 who,.agg #[.int .i64 v,.int .u64 (mc:Int)]] w (Began lo b fb L noE F m (newA who (.look v mc) (F.lk + shN F v mc) 1 (shN F v mc * F.B + buN F v mc) 1 1) w):=by
 have HO:=Lib.hid fun (t:TypeId) => show Calls Try.prog 49 #[.pointer (some ⟨fb,0,none⟩),.int .i64 who,.agg #[.int .i64 v,.int .u64 (mc:Int)],.func (.func 50) #[] #[.pointer (some ⟨w.heap.size,0,none⟩)]] (w.alloc (.cells #[.int .i64 v,.int .u64 (mc:Int)] t)) (Began lo b fb L noE F m (newA who (.look v mc) (F.lk + shN F v mc) 1 (shN F v mc * F.B + buN F v mc) 1 2) w) from
  (fdb_ofY (hf.below ((Below.refl _ _).alloc (Nat.le_refl _) _)) who hw v mc hmc hr (.look v mc _ key_var) (fun j hj => by subst hj; exact ⟨hLw,by simp⟩) (Nat.le_trans hLw (by simp))).mono fun e w2 h => h.from ((Below.refl _ _).alloc (Nat.le_refl _) _) (fun j hj => by subst hj; exact ⟨Nat.le_refl _,by simp⟩) hLw
 have HL:=Lib.hid hLw
 clear hf hr hLw
 go_enter Try.func17,Try.ntmps17
 go_wp2_with fail
 refine (HO.out _).mono ?_
 rintro e w1 ⟨ab,rfl,hz,hb1,fv,lv,wv,hact⟩
 have q7:w1.cell? ⟨ab,7,none⟩=some (.int .i64 2):=hact.at_ (i:=7) (by omega)
 have f7:=hact.fz 7
 have HA:=Lib.hid hact
 have HB:=Lib.hid hb1
 have HZ:=Lib.hid hz
 clear hact hb1 hz HO
 go_wp2
 go_ret
 refine ⟨ab,rfl,HZ.out,HB.out.setCell HZ.out _,?_⟩
 show FactAt _ L (growE noE w (w1.setCell ⟨ab,7,none⟩ (.int .i64 1))) fb ab F _
 rw [growE_set]
 exact ⟨fv,lv,wv,HA.out.set_st 1⟩
set_option maxRecDepth 20000 in
set_option maxHeartbeats 1600000 in
theorem fdb_LookupN (who:Int) (v:Int) (mc:Nat) (hmc:mc < 18446744073709551616) (hr:rightK v mc=false) :
  Calls Try.prog 17 #[.pointer (some ⟨fb,0,none⟩),.int .i64 who,.agg #[.int .i64 v,.int .u64 (mc:Int)]] w (Says (.pointer none) w):=by
 have HO:=Lib.hid fun W fv => fdb_ofN (fb:=fb) (w:=W) who v mc hmc hr fv
 clear hr
 go_enter Try.func17,Try.ntmps17
 go_wp2_with fail
 refine (HO.out _ _).mono ?_
 rintro e w1 ⟨rfl,hb1⟩
 have HB1:=Lib.hid (((Below.refl w.heap.size w).alloc (Nat.le_refl _) _).trans (hb1.mono (by simp)))
 clear hb1
 go_wp2
 go_ret
 exact ⟨rfl,HB1.out⟩
set_option maxRecDepth 20000 in
set_option maxHeartbeats 1600000 in
theorem fdb_DropN (who:Int) (v:Int) (mc:Nat) (hmc:mc < 18446744073709551616) (hr:rightK v mc=false) :
  Calls Try.prog 27 #[.pointer (some ⟨fb,0,none⟩),.int .i64 who,.agg #[.int .i64 v,.int .u64 (mc:Int)]] w (Says (.pointer none) w):=by
 have HO:=Lib.hid fun W fv => fdb_ofN (fb:=fb) (w:=W) who v mc hmc hr fv
 clear hr
 go_enter Try.func27,Try.ntmps27
 go_wp2_with fail
 refine (HO.out _ _).mono ?_
 rintro e w1 ⟨rfl,hb1⟩
 have HB1:=Lib.hid (((Below.refl w.heap.size w).alloc (Nat.le_refl _) _).trans (hb1.mono (by simp)))
 clear hb1
 go_wp2
 go_ret
 exact ⟨rfl,HB1.out⟩
end
end
section
open Go.RowKit
section
variable {w:World} {lo b fb L:Nat} {E:Nat→Prop} {F:FcS} {m:MemS}
theorem fdb_rightPort (p:Int) (w:World):Calls Try.prog 61 #[.int .i64 p] w (Says (.bool (decide (0≤p) && decide (p < 64))) w):=by
 by_cases h1:0≤p
 ·by_cases h2:p < 64
  ·go_enter Try.func61,Try.ntmps61
   go_wp2
   go_ret
   exact ⟨ret_bool (by simp [h1,h2]),by first | exact Below.refl _ _ | exact below_drewN (Below.refl _ _) _⟩
  ·go_enter Try.func61,Try.ntmps61
   go_wp2
   go_ret
   exact ⟨ret_bool (by simp [h1,h2] <;> (intros; omega)),by first | exact Below.refl _ _ | exact below_drewN (Below.refl _ _) _⟩
 ·go_enter Try.func61,Try.ntmps61
  go_wp2
  go_ret
  exact ⟨ret_bool (by simp [h1] <;> (intros; omega)),by first | exact Below.refl _ _ | exact below_drewN (Below.refl _ _) _⟩
theorem key_vars {v:Int} {mc:Nat} {p:Int} {now:Nat} {t t2 t3:TypeId} {w1:World} (hb:Below (((w.alloc (.cells #[.int .i64 v,.int .u64 (mc:Int)] t)).alloc (.cells #[.int .i64 p] t2)).alloc (.cells #[.int .u32 (now:Int)] t3)).heap.size (((w.alloc (.cells #[.int .i64 v,.int .u64 (mc:Int)] t)).alloc (.cells #[.int .i64 p] t2)).alloc (.cells #[.int .u32 (now:Int)] t3)) w1) :
  Below w.heap.size w w1∧w.heap.size + 3≤w1.heap.size∧VarIs w1 (fun j => w.heap.size≤j∧j < w.heap.size + 3) w.heap.size [.int .i64 v,.int .u64 (mc:Int)]∧VarIs w1 (fun j => w.heap.size≤j∧j < w.heap.size + 3) (w.heap.size + 1) [.int .i64 p]∧VarIs w1 (fun j => w.heap.size≤j∧j < w.heap.size + 3) (w.heap.size + 1 + 1) [.int .u32 (now:Int)]:=by
 have hz:=hb.size
 have hz3:(((w.alloc (.cells #[.int .i64 v,.int .u64 (mc:Int)] t)).alloc (.cells #[.int .i64 p] t2)).alloc (.cells #[.int .u32 (now:Int)] t3)).heap.size=w.heap.size + 3:=by simp
 rw [hz3] at hz
 have b1:Below w.heap.size w (w.alloc (.cells #[.int .i64 v,.int .u64 (mc:Int)] t)):=(Below.refl _ _).alloc (Nat.le_refl _) _
 have b2:=b1.alloc b1.size (.cells #[.int .i64 p] t2)
 have b3:=b2.alloc b2.size (.cells #[.int .u32 (now:Int)] t3)
 have c1:∀ i,w1.cell? ⟨w.heap.size,i,none⟩=(w.alloc (.cells #[.int .i64 v,.int .u64 (mc:Int)] t)).cell? ⟨w.heap.size,i,none⟩:=fun i =>
  (hb.cell (p:=⟨w.heap.size,i,none⟩) (by show w.heap.size < _; omega)).trans ((World.cell?_alloc_lt _ _ ⟨w.heap.size,i,none⟩ (by simp <;> omega)).trans (World.cell?_alloc_lt _ _ ⟨w.heap.size,i,none⟩ (by simp <;> omega)))
 have c2:∀ i,w1.cell? ⟨w.heap.size + 1,i,none⟩=((w.alloc (.cells #[.int .i64 v,.int .u64 (mc:Int)] t)).alloc (.cells #[.int .i64 p] t2)).cell? ⟨w.heap.size + 1,i,none⟩:=fun i =>
  (hb.cell (p:=⟨w.heap.size + 1,i,none⟩) (by show w.heap.size + 1 < _; omega)).trans (World.cell?_alloc_lt _ _ ⟨w.heap.size + 1,i,none⟩ (by simp <;> omega))
 have c3:∀ i,w1.cell? ⟨w.heap.size + 1 + 1,i,none⟩=(((w.alloc (.cells #[.int .i64 v,.int .u64 (mc:Int)] t)).alloc (.cells #[.int .i64 p] t2)).alloc (.cells #[.int .u32 (now:Int)] t3)).cell? ⟨w.heap.size + 1 + 1,i,none⟩:=fun i =>
  hb.cell (p:=⟨w.heap.size + 1 + 1,i,none⟩) (by show w.heap.size + 1 + 1 < _; omega)
 refine ⟨b3.trans (hb.mono b3.size),hz,⟨⟨by omega,by omega⟩,fun i x hx => ?_⟩,⟨⟨by omega,by omega⟩,fun i x hx => ?_⟩,⟨⟨by omega,by omega⟩,fun i x hx => ?_⟩⟩
 ·rw [c1]
  match i with
  | 0 => injection hx with hx; subst hx; simp [go_sem]
  | 1 => injection hx with hx; subst hx; simp [go_sem]
  | _ + 2 => cases hx
 ·rw [c2]
  match i with
  | 0 => injection hx with hx; subst hx; simp [go_sem]
  | _ + 1 => cases hx
 ·rw [c3]
  match i with
  | 0 => injection hx with hx; subst hx; simp [go_sem]
  | _ + 1 => cases hx
set_option maxRecDepth 20000 in
set_option maxHeartbeats 1600000 in
theorem fdb_LearnY (hf:FdbAt w lo b fb F m) (who:Int) (hw:0≤who) (v:Int) (mc:Nat) (hmc:mc < 18446744073709551616) (hr:rightK v mc=true) (p:Int) (hp:0≤p∧p < 64) (now:Nat) (hLw:L≤w.heap.size) :
  Calls Try.prog 25 #[.pointer (some ⟨fb,0,none⟩),.int .i64 who,.agg #[.int .i64 v,.int .u64 (mc:Int)],.int .i64 p,.int .u32 (now:Int)] w (Began lo b fb L noE F m (newA who (.learn v mc p now) (F.lk + shN F v mc) 1 (shN F v mc * F.B + buN F v mc) 1 2) w):=by
 have HRP:=Lib.hid fun W => fdb_rightPort p W
 rw [show (decide (0≤p) && decide (p < 64))=true by simp [hp]] at HRP
 have HO:=Lib.hid fun W (hb:Below w.heap.size w W) (hz:w.heap.size + 3≤W.heap.size) (hk:WkAt W (fun j => w.heap.size≤j∧j < w.heap.size + 3) (.learn v mc p now) (.func (.func 62) #[] #[.pointer (some ⟨w.heap.size,0,none⟩),.pointer (some ⟨w.heap.size + 1,0,none⟩),.pointer (some ⟨w.heap.size + 1 + 1,0,none⟩)])) => show Calls Try.prog 49 #[.pointer (some ⟨fb,0,none⟩),.int .i64 who,.agg #[.int .i64 v,.int .u64 (mc:Int)],.func (.func 62) #[] #[.pointer (some ⟨w.heap.size,0,none⟩),.pointer (some ⟨w.heap.size + 1,0,none⟩),.pointer (some ⟨w.heap.size + 1 + 1,0,none⟩)]] W (Began lo b fb L noE F m (newA who (.learn v mc p now) (F.lk + shN F v mc) 1 (shN F v mc * F.B + buN F v mc) 1 2) w) from
  (fdb_ofY (hf.below hb) who hw v mc hmc hr hk (fun j hj => ⟨by omega,by omega⟩) (Nat.le_trans hLw hb.size)).mono fun e w2 h => h.from hb (fun j hj => ⟨hj.1,by omega⟩) hLw
 clear hf hr hLw hp
 go_enter Try.func25,Try.ntmps25
 go_wp2_with fail
 refine (HRP.out _).mono ?_
 rintro e w1 ⟨rfl,hb1⟩
 obtain ⟨hB,hz,k1,k2,k3⟩:=key_vars hb1
 have HO2:=Lib.hid fun q => HO.out (w1.drewN q) (below_drewN hB q) hz (.learn v mc p now _ _ _ k1 k2 k3)
 have HO1:=Lib.hid (HO.out w1 hB hz (.learn v mc p now _ _ _ k1 k2 k3))
 have c0:w1.cell? ⟨w.heap.size,0,none⟩=some (.int .i64 v):=k1.at_ (i:=0) rfl
 have c1:w1.cell? ⟨w.heap.size,1,none⟩=some (.int .u64 (mc:Int)):=k1.at_ (i:=1) rfl
 clear hb1 hB hz k1 k2 k3 HO
 go_wp2_with fail
 refine (HO1.out).mono ?_
 rintro e w2 ⟨ab,rfl,hz,hb3,hact⟩
 go_wp2
 go_ret
 exact ⟨ab,rfl,hz,hb3,hact⟩
end
end
section
open Go.RowKit
section
variable {w:World} {lo b fb L:Nat} {E:Nat→Prop} {F:FcS} {m:MemS}
set_option maxRecDepth 20000 in
set_option maxHeartbeats 1600000 in
theorem fdb_FlushW (hf:FdbAt w lo b fb F m) (who:Int) (hw:who < 0) (p v:Int) :
  Calls Try.prog 29 #[.pointer (some ⟨fb,0,none⟩),.int .i64 who,.agg #[.int .i64 p,.int .i64 v]] w (Says (.pointer none) w):=by
 have HO:=Lib.hid fun W (hb:Below w.heap.size w W) fv => fdb_oneN (hf.below hb) who 0 0 fv (.inl hw)
 clear hf hw
 go_enter Try.func29,Try.ntmps29
 go_wp2_with fail
 refine (HO.out _ ((Below.refl _ _).alloc (Nat.le_refl _) _) _).mono ?_
 rintro e w1 ⟨rfl,hb1⟩
 have HB1:=Lib.hid (((Below.refl w.heap.size w).alloc (Nat.le_refl _) _).trans (hb1.mono (by simp)))
 clear hb1
 go_wp2
 go_ret
 exact ⟨rfl,HB1.out⟩
end
end
end Go.Proofs.Ythloabdfkakehaa
