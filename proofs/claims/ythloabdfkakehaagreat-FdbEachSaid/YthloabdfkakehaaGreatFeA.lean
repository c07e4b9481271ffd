/-
  Words and contracts that a statement's proof rests on (FeA, FeI). No statement is proved here.
-/
import Derived.Test.YthloabdfkakehaaGreatFdN
import Derived.Test.YthloabdfkakehaaGreatFdZ
set_option linter.unusedVariables false
set_option linter.unusedSimpArgs false
namespace Go.Proofs.YthloabdfkakehaaGreat
section
open Go.RowKit
section
variable {w:World} {lo b fb L:Nat} {E:Nat→Prop} {F:FcS} {m:MemS}
def noE (k:Nat):Prop:=False
theorem key_var {v:Int} {mc:Nat} {t:TypeId}:VarIs (w.alloc (.cells #[.int .i64 v,.int .u64 (mc:Int)] t)) (fun k => k=w.heap.size) w.heap.size [.int .i64 v,.int .u64 (mc:Int)] :=
 ⟨rfl,fun i x hx => by
  match i with
  | 0 => injection hx with hx; subst hx; simp [go_sem]
  | 1 => injection hx with hx; subst hx; simp [go_sem]
  | _ + 2 => cases hx⟩
theorem Began.from {w1 w2:World} {E1:Nat→Prop} {a:FaS} {e:Ending} (hb:Below w.heap.size w w1) (h:Began lo b fb L E1 F m a w1 e w2) (hE:∀ k,E1 k→w.heap.size≤k∧k < w1.heap.size) (hL:L≤w.heap.size):Began lo b fb L noE F m a w e w2:=by
 obtain ⟨ab,h1,h2,h3,fv,lv,wv,h4⟩:=h
 have hz:=hb.size
 have hz2:=h3.size
 exact ⟨ab,h1,by omega,hb.trans (h3.mono hz),fv,lv,wv,h4.grow (fun k hk => by
  rcases hk with hk | hk
  ·have:=hE k hk; exact .inr ⟨this.1,by omega⟩
  ·exact .inr ⟨by omega,hk.2⟩) fun k hk => by
  rcases hk with hk | hk
  ·cases hk
  ·omega⟩
set_option maxRecDepth 20000 in
set_option maxHeartbeats 1600000 in
theorem fdb_LookupY (hf:FdbAt w lo b fb F m) (who:Int) (hw:0≤who) (v:Int) (mc:Nat) (hmc:mc < 18446744073709551616) (hr:rightK v mc=true) (hLw:L≤w.heap.size) :
  Calls Tryz.prog 21 #[.pointer (some ⟨fb,0,none⟩),.int .i64 who,.agg #[.int .i64 v,.int .u64 (mc:Int)]] w (Began lo b fb L noE F m (newA who (.look v mc) (F.lk + shN F v mc) 1 (shN F v mc * F.B + buN F v mc) 1 1) w):=by
 have HO:=Lib.hid fun (t:TypeId) => show Calls Tryz.prog 58 #[.pointer (some ⟨fb,0,none⟩),.int .i64 who,.agg #[.int .i64 v,.int .u64 (mc:Int)],.func (.func 59) #[] #[.pointer (some ⟨w.heap.size,0,none⟩)]] (w.alloc (.cells #[.int .i64 v,.int .u64 (mc:Int)] t)) (Began lo b fb L noE F m (newA who (.look v mc) (F.lk + shN F v mc) 1 (shN F v mc * F.B + buN F v mc) 1 2) w) from
  (fdb_ofY (hf.below ((Below.refl _ _).alloc (Nat.le_refl _) _)) who hw v mc hmc hr (.look v mc _ key_var) (fun j hj => by subst hj; exact ⟨hLw,by simp⟩) (Nat.le_trans hLw (by simp))).mono fun e w2 h => h.from ((Below.refl _ _).alloc (Nat.le_refl _) _) (fun j hj => by subst hj; exact ⟨Nat.le_refl _,by simp⟩) hLw
 have HL:=Lib.hid hLw
 clear hf hr hLw
 go_enter Tryz.func21,Tryz.ntmps21
 go_wp2_with fail
 refine (HO.out _).mono ?_
 rintro e w1 ⟨ab,rfl,hz,hb1,fv,lv,wv,hact⟩
 have q7:w1.cell? ⟨ab,7,none⟩=some (.int .i64 2):=hact.at_ (i:=7) (by omega)
 have f7:=hact.fz 7
 have HA:=Lib.hid hact
 have HB:=Lib.hid hb1
 have HZ:=Lib.hid hz
 clear hact hb1 hz HO
 go_wp2
 go_ret
 refine ⟨ab,rfl,HZ.out,HB.out.setCell HZ.out _,?_⟩
 show FactAt _ L (growE noE w (w1.setCell ⟨ab,7,none⟩ (.int .i64 1))) fb ab F _
 rw [growE_set]
 exact ⟨fv,lv,wv,HA.out.set_st 1⟩
set_option maxRecDepth 20000 in
set_option maxHeartbeats 1600000 in
theorem fdb_DropY (hf:FdbAt w lo b fb F m) (who:Int) (hw:0≤who) (v:Int) (mc:Nat) (hmc:mc < 18446744073709551616) (hr:rightK v mc=true) (hLw:L≤w.heap.size) :
  Calls Tryz.prog 72 #[.pointer (some ⟨fb,0,none⟩),.int .i64 who,.agg #[.int .i64 v,.int .u64 (mc:Int)]] w (Began lo b fb L noE F m (newA who (.drop v mc) (F.lk + shN F v mc) 1 (shN F v mc * F.B + buN F v mc) 1 2) w):=by
 have HO:=Lib.hid fun (t:TypeId) => show Calls Tryz.prog 58 #[.pointer (some ⟨fb,0,none⟩),.int .i64 who,.agg #[.int .i64 v,.int .u64 (mc:Int)],.func (.func 112) #[] #[.pointer (some ⟨w.heap.size,0,none⟩)]] (w.alloc (.cells #[.int .i64 v,.int .u64 (mc:Int)] t)) (Began lo b fb L noE F m (newA who (.drop v mc) (F.lk + shN F v mc) 1 (shN F v mc * F.B + buN F v mc) 1 2) w) from
  (fdb_ofY (hf.below ((Below.refl _ _).alloc (Nat.le_refl _) _)) who hw v mc hmc hr (.drop v mc _ key_var) (fun j hj => by subst hj; exact ⟨hLw,by simp⟩) (Nat.le_trans hLw (by simp))).mono fun e w2 h => h.from ((Below.refl _ _).alloc (Nat.le_refl _) _) (fun j hj => by subst hj; exact ⟨Nat.le_refl _,by simp⟩) hLw
 clear hf hr hLw
 go_enter Tryz.func72,Tryz.ntmps72
 go_wp2_with fail
 refine (HO.out _).mono ?_
 rintro e w1 ⟨ab,rfl,hz,hb1,hact⟩
 go_wp2
 go_ret
 exact ⟨ab,rfl,hz,hb1,hact⟩
end
end
section
open Go.RowKit
theorem FactIn.set_lc {w:World} {L:Nat} {E:Nat→Prop} {fb ab:Nat} {F:FcS} {a:FaS} {fv lv wv:Value} (h:FactIn w L E fb ab F a fv lv wv) (z:Nat):FactIn (w.setCell ⟨ab,4,none⟩ (.int .i64 (z:Nat))) L E fb ab F { a with lc:=z } fv lv wv where
 row:=(h.row.set 4 _).congr fun i hi => by
  match i,hi with
  | 0,_ => rfl
  | 1,_ => rfl
  | 2,_ => rfl
  | 3,_ => rfl
  | 4,_ => rfl
  | 5,_ => rfl
  | 6,_ => rfl
  | 7,_ => rfl
  | 8,_ => rfl
  | 9,_ => rfl
  | 10,_ => rfl
  | 11,_ => rfl
  | 12,_ => rfl
  | 13,_ => rfl
  | 14,_ => rfl
  | 15,_ => rfl
  | _ + 16,hh => exact absurd hh (by omega)
 own:=h.own
 wk:=(h.lift 4 _).1
 ld:=(h.lift 4 _).2.1
 wr:=(h.lift 4 _).2.2.1
 ldE:=h.ldE
 wrE:=h.wrE
 low:=(h.lift 4 (.int .i64 (z:Nat))).2.2.2
 tb:=h.tb
 an:=h.an
theorem FactIn.set_hc {w:World} {L:Nat} {E:Nat→Prop} {fb ab:Nat} {F:FcS} {a:FaS} {fv lv wv:Value} (h:FactIn w L E fb ab F a fv lv wv) (z:Nat):FactIn (w.setCell ⟨ab,6,none⟩ (.int .i64 ((z * F.W:Nat):Int))) L E fb ab F { a with hc:=z } fv lv wv where
 row:=(h.row.set 6 _).congr fun i hi => by
  match i,hi with
  | 0,_ => rfl
  | 1,_ => rfl
  | 2,_ => rfl
  | 3,_ => rfl
  | 4,_ => rfl
  | 5,_ => rfl
  | 6,_ => rfl
  | 7,_ => rfl
  | 8,_ => rfl
  | 9,_ => rfl
  | 10,_ => rfl
  | 11,_ => rfl
  | 12,_ => rfl
  | 13,_ => rfl
  | 14,_ => rfl
  | 15,_ => rfl
  | _ + 16,hh => exact absurd hh (by omega)
 own:=h.own
 wk:=(h.lift 6 _).1
 ld:=(h.lift 6 _).2.1
 wr:=(h.lift 6 _).2.2.1
 ldE:=h.ldE
 wrE:=h.wrE
 low:=(h.lift 6 (.int .i64 ((z * F.W:Nat):Int))).2.2.2
 tb:=h.tb
 an:=h.an
section
variable {w:World} {lo b fb L:Nat} {E:Nat→Prop} {F:FcS} {m:MemS}
theorem flush_var {p v:Int} {t:TypeId}:VarIs (w.alloc (.cells #[.int .i64 p,.int .i64 v] t)) (fun k => k=w.heap.size) w.heap.size [.int .i64 p,.int .i64 v] :=
 ⟨rfl,fun i x hx => by
  match i with
  | 0 => injection hx with hx; subst hx; simp [go_sem]
  | 1 => injection hx with hx; subst hx; simp [go_sem]
  | _ + 2 => cases hx⟩
set_option maxRecDepth 20000 in
set_option maxHeartbeats 1600000 in
theorem fdb_FlushY (hf:FdbAt w lo b fb F m) (who:Int) (hw:0≤who) (p v:Int) (hLw:L≤w.heap.size) :
  Calls Tryz.prog 74 #[.pointer (some ⟨fb,0,none⟩),.int .i64 who,.agg #[.int .i64 p,.int .i64 v]] w (Began lo b fb L noE F m (newA who (.flush p v) F.lk F.S 0 (F.S * F.B) 2) w):=by
 have hS:=hf.fits.S
 have hB:=hf.fits.B
 have hn:=hf.fits.n
 have hlo:=hf.out
 have hlt:=hf.lt
 have HO:=Lib.hid fun (t:TypeId) => show Calls Tryz.prog 100 #[.pointer (some ⟨fb,0,none⟩),.int .i64 who,.int .i64 0,.int .i64 0,.func (.func 116) #[] #[.pointer (some ⟨w.heap.size,0,none⟩)]] (w.alloc (.cells #[.int .i64 p,.int .i64 v] t)) (Began lo b fb L noE F m (newA who (.flush p v) (F.lk + 0) 1 (0 * F.B + 0) 1 2) w) from
  (fdb_oneY (hf.below ((Below.refl _ _).alloc (Nat.le_refl _) _)) who hw 0 0 (by omega) (by omega) (.flush p v _ flush_var) (fun j hj => by subst hj; exact ⟨hLw,by simp⟩) (Nat.le_trans hLw (by simp))).mono fun e w2 h => h.from ((Below.refl _ _).alloc (Nat.le_refl _) _) (fun j hj => by subst hj; exact ⟨Nat.le_refl _,by simp⟩) hLw
 rw [show newA who (.flush p v) (F.lk + 0) 1 (0 * F.B + 0) 1 2=newA who (.flush p v) F.lk 1 0 1 2 by rw [Nat.zero_mul]; rfl] at HO
 have HL9:=Lib.hid hLw
 have HLK:=Lib.hid fun W => fdb_LocksY F.S F.B F.n hS hB hn W
 have HCE:=Lib.hid fun W => fdb_CellsY F.S F.B F.n hS hB hn W
 have e9:F.S * F.B * (1 + 2 * F.n)=F.S * F.B * F.W:=rfl
 rw [e9] at HCE
 have HFB:=Lib.hid fun W (hb:Below w.heap.size w W) => hf.below hb
 have HSS:=Lib.hid fun W (hb:Below w.heap.size w W) => show W.cell? ⟨fb,3,none⟩=some (.int .i64 (F.S:Nat))∧W.cell? ⟨fb,4,none⟩=some (.int .i64 (F.B:Nat))∧W.cell? ⟨fb,5,none⟩=some (.int .i64 (F.n:Nat)) from ⟨(hf.below hb).at_.2.2.2.1,(hf.below hb).at_.2.2.2.2.1,(hf.below hb).at_.2.2.2.2.2.1⟩
 have HLO:Hid (lo + 3≤fb∧fb < w.heap.size):=⟨hlo,hlt⟩
 clear hf hS hB hn hlo hlt hLw e9
 go_enter Tryz.func74,Tryz.ntmps74
 go_wp2_with fail
 refine (HO.out _).mono ?_
 rintro e w1 ⟨ab,rfl,hz,hb1,fv,lv,wv,hact⟩
 obtain ⟨r3,r4,r5⟩:=HSS.out w1 hb1
 have HBW:=Lib.hid hb1
 have HA:=Lib.hid hact
 have HZ:Hid (w.heap.size≤ab∧lo + 3≤ab∧ab ≠ fb):=⟨hz,by have:=HLO.out; omega,by have:=HLO.out; omega⟩
 clear hact hb1 hz HO
 go_wp2_with fail
 refine wp_region_held_drew (S:=fun w' => w'.cell? ⟨fb,3,none⟩=some (.int .i64 (F.S:Nat))∧w'.cell? ⟨fb,4,none⟩=some (.int .i64 (F.B:Nat))∧w'.cell? ⟨fb,5,none⟩=some (.int .i64 (F.n:Nat))) (by kernel_rfl) ?_ (fun hHeld => ?_)
 ·exact ⟨r3,r4,r5⟩
 obtain ⟨v0,hv0⟩:∃ w',w'=w1.drew:=⟨_,rfl⟩
 have hvb:Below w1.heap.size w1 v0:=by rw [hv0]; exact (Below.refl _ _).drew
 rw [← hv0] at hHeld ⊢
 have HB0:=Lib.hid (HBW.out.trans (hvb.mono HBW.out.size))
 have HA0:=Lib.hid (HA.out.below hvb)
 have HZ0:=Lib.hid hvb.size
 clear hv0 hvb r3 r4 r5
 refine tkR 0 rfl ?_
 refine tkR 1 rfl ?_
 refine tkR 2 rfl ?_
 refine tkR 3 rfl ?_
 refine tkR 4 rfl ?_
 refine tkR 5 rfl ?_
 refine tkR 7 rfl ?_
 refine tkR 8 rfl ?_
 refine tkR 9 rfl ?_
 refine tkR 10 rfl ?_
 refine clR 6 rfl fun K hK => ?_
 go_simp
 refine Calls.mono (HLK.out _) ?_
 rintro e w2 ⟨rfl,hb2⟩
 have HB2:=Lib.hid (HB0.out.trans (hb2.mono HB0.out.size))
 have HA2:=Lib.hid (HA0.out.below hb2)
 have HZ2:=Lib.hid (Nat.le_trans HZ0.out hb2.size)
 clear hb2
 refine hK.out _ _ ?_ (fun hHeld => ?_)
 ·(try dsimp only)
  exact HSS.out _ HB2.out
 clear hK K
 (try simp only [Act.put,sqA,sqB,sqC])
 refine clR 11 rfl fun K hK => ?_
 go_simp
 refine Calls.mono (HCE.out _) ?_
 rintro e w3 ⟨rfl,hb3⟩
 have HB3:=Lib.hid (HB2.out.trans (hb3.mono HB2.out.size))
 have HA3:=Lib.hid (HA2.out.below hb3)
 have HZ3:=Lib.hid (Nat.le_trans HZ2.out hb3.size)
 have q4:w3.cell? ⟨ab,4,none⟩=some (.int .i64 1):=HA3.out.at_ (i:=4) (by omega)
 have q6:w3.cell? ⟨ab,6,none⟩=some (.int .i64 ((1 * F.W:Nat):Int)):=HA3.out.at_ (i:=6) (by omega)
 have f4:=HA3.out.fz 4
 have f6:=HA3.out.fz 6
 clear hb3
 refine hK.out _ _ ?_ (fun hHeld => ?_)
 ·(try dsimp only)
  exact HSS.out _ HB3.out
 clear hK K
 refine tkR 12 rfl ?_
 refine tkR 13 rfl ?_
 refine clR 14 rfl fun K hK => ?_
 go_simp
 refine hK.out _ _ ?_ (fun hHeld => ?_)
 ·(try dsimp only)
  exact HSS.out _ (HB3.out.setCell HZ.out.1 _)
 clear hK K
 refine tkR 15 rfl ?_
 refine tkR 16 rfl ?_
 refine clR 17 rfl fun K hK => ?_
 go_simp
 refine hK.out _ _ ?_ (fun hHeld => ?_)
 ·(try dsimp only)
  exact HSS.out _ ((HB3.out.setCell HZ.out.1 _).setCell HZ.out.1 _)
 clear hK K
 (try simp only [Act.put,sqA,sqB,sqC])
 refine wpAnyH_done (by kernel_rfl) ?_ _
 clear hHeld
 go_wp2
 go_ret
 have hset:Below w.heap.size w ((w3.setCell ⟨ab,4,none⟩ (.int .i64 (F.S:Nat))).setCell ⟨ab,6,none⟩ (.int .i64 ((F.S * F.B * F.W:Nat):Int))):=(HB3.out.setCell HZ.out.1 _).setCell HZ.out.1 _
 refine ⟨ab,rfl,HZ.out.1,hset,?_⟩
 show FactAt _ L (growE noE w ((w3.setCell ⟨ab,4,none⟩ (.int .i64 (F.S:Nat))).setCell ⟨ab,6,none⟩ (.int .i64 ((F.S * F.B * F.W:Nat):Int)))) fb ab F _
 rw [growE_set,growE_set]
 have h9:=(HA3.out.set_lc F.S).set_hc (F.S * F.B)
 refine ⟨fv,lv,wv,h9.grow (fun k hk => ?_) (fun k hk => ?_)⟩
 ·rcases hk with hk | hk
  ·exact .inl hk
  ·exact .inr ⟨hk.1,Nat.lt_of_lt_of_le hk.2 HZ3.out⟩
 ·have h8:=HL9.out
  rcases hk with hk | hk
  ·exact False.elim hk
  ·exact ⟨by omega,by simpa using hk.2⟩
end
end
end Go.Proofs.YthloabdfkakehaaGreat
