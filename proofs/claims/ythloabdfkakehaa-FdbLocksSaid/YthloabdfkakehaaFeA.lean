/-
  Words and contracts that a statement's proof rests on (FdZ, FeA). No statement is proved here.
-/
import Derived.Test.YthloabdfkakehaaBuH
import Derived.Test.YthloabdfkakehaaFdF
import Derived.Test.YthloabdfkakehaaFdN
set_option linter.unusedVariables false
set_option linter.unusedSimpArgs false
namespace Go.Proofs.Ythloabdfkakehaa
section
open Go.RowKit
section
variable {w:World} {lo b fb L:Nat} {E:Nat→Prop} {F:FcS} {m:MemS}
theorem Began.above {w1 w2:World} {a:FaS} {e:Ending} (hb:Below w.heap.size w w1) (h:Began lo b fb L E F m a w1 e w2) (hE:∀ k,E k→L≤k∧k < w.heap.size) (hL:L≤w.heap.size):Began lo b fb L E F m a w e w2:=by
 obtain ⟨ab,h1,h2,h3,fv,lv,wv,h4⟩:=h
 have hz:=hb.size
 have hz2:=h3.size
 exact ⟨ab,h1,by omega,hb.trans (h3.mono hz),fv,lv,wv,h4.grow (fun k hk => by
  rcases hk with hk | hk
  ·exact .inl hk
  ·exact .inr ⟨by omega,hk.2⟩) fun k hk => by
  rcases hk with hk | hk
  ·have:=hE k hk; omega
  ·omega⟩
def shN (F:FcS) (v:Int) (m:Nat):Nat:=(plS v m F.S F.B).toNat
def buN (F:FcS) (v:Int) (m:Nat):Nat:=(plB v m F.S F.B).toNat
set_option maxRecDepth 20000 in
set_option maxHeartbeats 1600000 in
theorem fdb_ofY (hf:FdbAt w lo b fb F m) (who:Int) (hw:0≤who) (v:Int) (mc:Nat) (hmc:mc < 18446744073709551616) (hr:rightK v mc=true) {k:Wk} {fn:Fn} {caps:Array Value} (hk:WkAt w E k (.func fn #[] caps)) (hE:∀ k,E k→L≤k∧k < w.heap.size) (hLw:L≤w.heap.size) :
  Calls Try.prog 49 #[.pointer (some ⟨fb,0,none⟩),.int .i64 who,.agg #[.int .i64 v,.int .u64 (mc:Int)],.func fn #[] caps] w (Began lo b fb L E F m (newA who k (F.lk + shN F v mc) 1 (shN F v mc * F.B + buN F v mc) 1 2) w):=by
 obtain ⟨s0,s1,s2,s3,s4,s5,s6⟩:=hf.at_
 have hS:=hf.fits.S
 have hB:=hf.fits.B
 have hp:=pl_bd v mc F.S F.B
 have HR:=Lib.hid fun W => key_Right v mc hmc W
 rw [hr] at HR
 have HP:=Lib.hid fun W => key_Place v mc hmc F.S F.B (by omega) (by omega) W
 have e1:plS v mc F.S F.B=(shN F v mc:Nat):=(Int.toNat_of_nonneg hp.1).symm
 have e2:plB v mc F.S F.B=(buN F v mc:Nat):=(Int.toNat_of_nonneg hp.2.2.1).symm
 have h3:shN F v mc < F.S:=by have:=hp.2.1 (by omega); omega
 have h4:buN F v mc < F.B:=by have:=hp.2.2.2 (by omega); omega
 rw [e1,e2] at HP
 generalize shN F v mc=s at *
 generalize buN F v mc=n at *
 have HO:=Lib.hid fun W (hb:Below w.heap.size w W) => show Calls Try.prog 68 #[.pointer (some ⟨fb,0,none⟩),.int .i64 who,.int .i64 (s:Nat),.int .i64 (n:Nat),.func fn #[] caps] W (Began lo b fb L E F m (newA who k (F.lk + s) 1 (s * F.B + n) 1 2) w) from
  (fdb_oneY (hf.below hb) who hw s n h3 h4 (hk.keep (fun _ h => h) fun j hj => hb.block j (hE j hj).2) (fun j hj => ⟨(hE j hj).1,Nat.lt_of_lt_of_le (hE j hj).2 hb.size⟩) (Nat.le_trans hLw hb.size)).mono fun e w2 h => h.above hb hE hLw
 have HS:=Lib.hid fun (W:World) (hB:Below w.heap.size w W) => show W.cell? ⟨fb,3,none⟩=some (.int .i64 (F.S:Nat))∧W.cell? ⟨fb,4,none⟩=some (.int .i64 (F.B:Nat)) from
  ⟨(hf.below hB).at_.2.2.2.1,(hf.below hB).at_.2.2.2.2.1⟩
 clear hf hS hB hp hr hk hE hLw e1 e2 h3 h4 s0 s1 s2 s3 s4 s5 s6
 go_enter Try.func49,Try.ntmps49
 go_wp2_with (first
  | go_big_skip
  | (go_at_call 81; (with_reducible refine Calls.mono (HR.out _) ?_); rintro e w1 ⟨rfl,hb1⟩; have HB1:=Lib.hid (((Below.refl w.heap.size w).alloc (Nat.le_refl _) _).trans (hb1.mono (by simp))); have c0:w1.cell? ⟨w.heap.size,0,none⟩=some (.int .i64 v):=(hb1.cell (p:=⟨w.heap.size,0,none⟩) (by simp)).trans (by simp [go_sem]); have c1:w1.cell? ⟨w.heap.size,1,none⟩=some (.int .u64 (mc:Int)):=(hb1.cell (p:=⟨w.heap.size,1,none⟩) (by simp)).trans (by simp [go_sem]); have hlt9:w.heap.size < w1.heap.size:=Nat.lt_of_lt_of_le (by simp) hb1.size; clear hb1)
  | fail)
 have r9:=HS.out w1 HB1.out
 have HC9:=Lib.hid fun W (hb:Below w1.heap.size w1.drew W) => show W.cell? ⟨w.heap.size,0,none⟩=some (.int .i64 v)∧W.cell? ⟨w.heap.size,1,none⟩=some (.int .u64 (mc:Int)) from ⟨(hb.cell (p:=⟨w.heap.size,0,none⟩) hlt9).trans c0,(hb.cell (p:=⟨w.heap.size,1,none⟩) hlt9).trans c1⟩
 go_region_held3 (fun w' => (w'.cell? ⟨fb,3,none⟩=some (.int .i64 (F.S:Nat))∧w'.cell? ⟨fb,4,none⟩=some (.int .i64 (F.B:Nat)))∧w'.cell? ⟨w.heap.size,0,none⟩=some (.int .i64 v)∧w'.cell? ⟨w.heap.size,1,none⟩=some (.int .u64 (mc:Int))) (first | exact ⟨HS.out _ HB2.out,HC2.out⟩ | exact ⟨r9,c0,c1⟩ | go_keep) (first
  | (go_at_call 82; (with_reducible refine Calls.mono (HP.out _) ?_); rintro e w2 ⟨rfl,hb2⟩; have HB2:=Lib.hid (Below.trans (Below.drew HB1.out) (hb2.mono HB1.out.size)); have HC2:=Lib.hid (HC9.out _ hb2); clear hb2))
 go_wp2_with fail
 refine (HO.out _ HB2.out).mono ?_
 rintro e w3 ⟨ab,rfl,hz,hb3,hact⟩
 go_wp2
 go_ret
 exact ⟨ab,rfl,hz,hb3,hact⟩
end
end
section
open Go.RowKit
section
variable {w:World} {lo b fb L:Nat} {E:Nat→Prop} {F:FcS} {m:MemS}
def noE (k:Nat):Prop:=False
theorem key_var {v:Int} {mc:Nat} {t:TypeId}:VarIs (w.alloc (.cells #[.int .i64 v,.int .u64 (mc:Int)] t)) (fun k => k=w.heap.size) w.heap.size [.int .i64 v,.int .u64 (mc:Int)] :=
 ⟨rfl,fun i x hx => by
  match i with
  | 0 => injection hx with hx; subst hx; simp [go_sem]
  | 1 => injection hx with hx; subst hx; simp [go_sem]
  | _ + 2 => cases hx⟩
theorem Began.from {w1 w2:World} {E1:Nat→Prop} {a:FaS} {e:Ending} (hb:Below w.heap.size w w1) (h:Began lo b fb L E1 F m a w1 e w2) (hE:∀ k,E1 k→w.heap.size≤k∧k < w1.heap.size) (hL:L≤w.heap.size):Began lo b fb L noE F m a w e w2:=by
 obtain ⟨ab,h1,h2,h3,fv,lv,wv,h4⟩:=h
 have hz:=hb.size
 have hz2:=h3.size
 exact ⟨ab,h1,by omega,hb.trans (h3.mono hz),fv,lv,wv,h4.grow (fun k hk => by
  rcases hk with hk | hk
  ·have:=hE k hk; exact .inr ⟨this.1,by omega⟩
  ·exact .inr ⟨by omega,hk.2⟩) fun k hk => by
  rcases hk with hk | hk
  ·cases hk
  ·omega⟩
set_option maxRecDepth 20000 in
set_option maxHeartbeats 1600000 in
theorem fdb_LookupY (hf:FdbAt w lo b fb F m) (who:Int) (hw:0≤who) (v:Int) (mc:Nat) (hmc:mc < 18446744073709551616) (hr:rightK v mc=true) (hLw:L≤w.heap.size) :
  Calls Try.prog 17 #[.pointer (some ⟨fb,0,none⟩),.int .i64 who,.agg #[.int .i64 v,.int .u64 (mc:Int)]] w (Began lo b fb L noE F m (newA who (.look v mc) (F.lk + shN F v mc) 1 (shN F v mc * F.B + buN F v mc) 1 1) w):=by
 have HO:=Lib.hid fun (t:TypeId) => show Calls Try.prog 49 #[.pointer (some ⟨fb,0,none⟩),.int .i64 who,.agg #[.int .i64 v,.int .u64 (mc:Int)],.func (.func 50) #[] #[.pointer (some ⟨w.heap.size,0,none⟩)]] (w.alloc (.cells #[.int .i64 v,.int .u64 (mc:Int)] t)) (Began lo b fb L noE F m (newA who (.look v mc) (F.lk + shN F v mc) 1 (shN F v mc * F.B + buN F v mc) 1 2) w) from
  (fdb_ofY (hf.below ((Below.refl _ _).alloc (Nat.le_refl _) _)) who hw v mc hmc hr (.look v mc _ key_var) (fun j hj => by subst hj; exact ⟨hLw,by simp⟩) (Nat.le_trans hLw (by simp))).mono fun e w2 h => h.from ((Below.refl _ _).alloc (Nat.le_refl _) _) (fun j hj => by subst hj; exact ⟨Nat.le_refl _,by simp⟩) hLw
 have HL:=Lib.hid hLw
 clear hf hr hLw
 go_enter Try.func17,Try.ntmps17
 go_wp2_with fail
 refine (HO.out _).mono ?_
 rintro e w1 ⟨ab,rfl,hz,hb1,fv,lv,wv,hact⟩
 have q7:w1.cell? ⟨ab,7,none⟩=some (.int .i64 2):=hact.at_ (i:=7) (by omega)
 have f7:=hact.fz 7
 have HA:=Lib.hid hact
 have HB:=Lib.hid hb1
 have HZ:=Lib.hid hz
 clear hact hb1 hz HO
 go_wp2
 go_ret
 refine ⟨ab,rfl,HZ.out,HB.out.setCell HZ.out _,?_⟩
 show FactAt _ L (growE noE w (w1.setCell ⟨ab,7,none⟩ (.int .i64 1))) fb ab F _
 rw [growE_set]
 exact ⟨fv,lv,wv,HA.out.set_st 1⟩
set_option maxRecDepth 20000 in
set_option maxHeartbeats 1600000 in
theorem fdb_DropY (hf:FdbAt w lo b fb F m) (who:Int) (hw:0≤who) (v:Int) (mc:Nat) (hmc:mc < 18446744073709551616) (hr:rightK v mc=true) (hLw:L≤w.heap.size) :
  Calls Try.prog 27 #[.pointer (some ⟨fb,0,none⟩),.int .i64 who,.agg #[.int .i64 v,.int .u64 (mc:Int)]] w (Began lo b fb L noE F m (newA who (.drop v mc) (F.lk + shN F v mc) 1 (shN F v mc * F.B + buN F v mc) 1 2) w):=by
 have HO:=Lib.hid fun (t:TypeId) => show Calls Try.prog 49 #[.pointer (some ⟨fb,0,none⟩),.int .i64 who,.agg #[.int .i64 v,.int .u64 (mc:Int)],.func (.func 66) #[] #[.pointer (some ⟨w.heap.size,0,none⟩)]] (w.alloc (.cells #[.int .i64 v,.int .u64 (mc:Int)] t)) (Began lo b fb L noE F m (newA who (.drop v mc) (F.lk + shN F v mc) 1 (shN F v mc * F.B + buN F v mc) 1 2) w) from
  (fdb_ofY (hf.below ((Below.refl _ _).alloc (Nat.le_refl _) _)) who hw v mc hmc hr (.drop v mc _ key_var) (fun j hj => by subst hj; exact ⟨hLw,by simp⟩) (Nat.le_trans hLw (by simp))).mono fun e w2 h => h.from ((Below.refl _ _).alloc (Nat.le_refl _) _) (fun j hj => by subst hj; exact ⟨Nat.le_refl _,by simp⟩) hLw
 clear hf hr hLw
 go_enter Try.func27,Try.ntmps27
 go_wp2_with fail
 refine (HO.out _).mono ?_
 rintro e w1 ⟨ab,rfl,hz,hb1,hact⟩
 go_wp2
 go_ret
 exact ⟨ab,rfl,hz,hb1,hact⟩
end
end
end Go.Proofs.Ythloabdfkakehaa
