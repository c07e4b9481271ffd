/-
  Words and contracts that a statement's proof rests on (FdB, FdX). No statement is proved here.
-/
import Derived.Deep.RegionHeld3
import Derived.Test.YthloabdfkakehaaFdA
set_option linter.unusedVariables false
set_option linter.unusedSimpArgs false
namespace Go.Proofs.Ythloabdfkakehaa
section
open Go.RowKit
theorem fdb_wide (S B n:Nat) (hn:n≤8) (w:World):Calls Try.prog 48 #[.agg #[.int .i64 (S:Nat),.int .i64 (B:Nat),.int .i64 (n:Nat)]] w (Says (.int .i64 ((1 + 2 * n:Nat):Int)) w):=by
 have e:((1 + 2 * n:Nat):Int)=1 + 2 * (n:Int):=by simp
 rw [e]
 go_enter Try.func48,Try.ntmps48
 go_wp2
 go_ret
 exact ⟨rfl,(Below.refl _ _).alloc (Nat.le_refl _) _⟩
theorem fdb_isEven (x:Int) (h0:0≤x) (w:World):Calls Try.prog 88 #[.int .u64 x] w fun e w' => e=.returned (.bool (decide (x % 2=0)))∧w=w':=by
 have e:decide (x % 2=0)=(x % 2 == 0):=by rw [Bool.eq_iff_iff]; simp
 rw [e]
 go_enter Try.func88,Try.ntmps88
 go_wp2
 go_ret
 exact ⟨rfl,rfl⟩
section
variable {w:World} {lo b fb L ab:Nat} {E:Nat→Prop} {F:FcS} {m:MemS} {a:FaS} {fv lv wv:Value}
theorem fact_Over (ha:FactIn w L E fb ab F a fv lv wv) {z:Bool} (hz:decide (a.st=0)=z) :
  Calls Try.prog 21 #[.pointer (some ⟨ab,0,none⟩)] w fun e w' => e=.returned (.bool z)∧w=w':=by
 have r7:w.cell? ⟨ab,7,none⟩=some (.int .i64 (a.st:Nat)):=ha.at_ (i:=7) (by omega)
 have hk:((a.st:Int) == 0)=z:=by rw [← hz,Bool.eq_iff_iff]; simp
 generalize a.st=s at *
 clear ha hz
 go_enter Try.func21,Try.ntmps21
 go_wp2
 go_ret
 exact ⟨rfl,rfl⟩
theorem fact_Mark (ha:FactIn w L E fb ab F a fv lv wv) :
  Calls Try.prog 22 #[.pointer (some ⟨ab,0,none⟩)] w fun e w' => e=.returned (.int .i64 a.mark)∧w=w':=by
 have r7:w.cell? ⟨ab,13,none⟩=some (.int .i64 a.mark):=ha.at_ (i:=13) (by omega)
 generalize a.mark=s at *
 clear ha
 go_enter Try.func22,Try.ntmps22
 go_wp2
 go_ret
 exact ⟨rfl,rfl⟩
theorem fact_Tries (ha:FactIn w L E fb ab F a fv lv wv) :
  Calls Try.prog 24 #[.pointer (some ⟨ab,0,none⟩)] w fun e w' => e=.returned (.int .i64 (a.vain:Nat))∧w=w':=by
 have r7:w.cell? ⟨ab,15,none⟩=some (.int .i64 (a.vain:Nat)):=ha.at_ (i:=15) (by omega)
 generalize a.vain=s at *
 clear ha
 go_enter Try.func24,Try.ntmps24
 go_wp2
 go_ret
 exact ⟨rfl,rfl⟩
theorem fact_Answer (ha:FactIn w L E fb ab F a fv lv wv) :
  Calls Try.prog 23 #[.pointer (some ⟨ab,0,none⟩)] w fun e w' => e=.returned (.int .i64 (if a.st=0 then a.ans else 0))∧w=w':=by
 have r7:w.cell? ⟨ab,7,none⟩=some (.int .i64 (a.st:Nat)):=ha.at_ (i:=7) (by omega)
 have r14:w.cell? ⟨ab,14,none⟩=some (.int .i64 a.ans):=ha.at_ (i:=14) (by omega)
 by_cases hs:a.st=0
 ·rw [if_pos hs]
  have hk:((a.st:Int) != 0)=false:=by simp [hs]
  generalize a.st=s at *
  generalize a.ans=q at *
  clear ha hs
  go_enter Try.func23,Try.ntmps23
  go_wp2
  go_ret
  exact ⟨rfl,rfl⟩
 ·rw [if_neg hs]
  have hk:((a.st:Int) != 0)=true:=by simp [hs]
  generalize a.st=s at *
  generalize a.ans=q at *
  clear ha hs
  go_enter Try.func23,Try.ntmps23
  go_wp2
  go_ret
  exact ⟨rfl,rfl⟩
theorem grow_low {w':World} (ha:FactIn w L E fb ab F a fv lv wv) (hz:w.heap.size≤w'.heap.size) (hL:L≤w.heap.size):∀ k,growE E w w' k→L≤k∧k < w'.heap.size:=fun k hk => by
 rcases hk with h | h
 ·have:=ha.low k h; omega
 ·omega
theorem FactIn.grown {w':World} {a':FaS} {fv' lv' wv':Value} (ha:FactIn w L E fb ab F a fv lv wv) (h:FactIn w' L E fb ab F a' fv' lv' wv') (hz:w.heap.size≤w'.heap.size) (hL:L≤w.heap.size):FactAt w' L (growE E w w') fb ab F a' :=
 ⟨fv',lv',wv',h.grow (fun _ h => .inl h) (grow_low ha hz hL)⟩
set_option maxHeartbeats 800000 in
theorem fact_takeEffect (hf:FdbAt w lo b fb F m) (ha:FactIn w L E fb ab F a fv lv wv) (ht:0≤m.t∧m.t≤4611686018427387904) (h1:lo + 3≤L) (h2:fb < L) :
  Calls Try.prog 89 #[.pointer (some ⟨ab,0,none⟩)] w fun e w' => e=.returned (.tuple #[])∧w'=w.setCell ⟨ab,13,none⟩ (.int .i64 m.t):=by
 have r0:w.cell? ⟨ab,0,none⟩=some (.pointer (some ⟨fb,0,none⟩)):=ha.at_ (i:=0) (by omega)
 have r13:w.cell? ⟨ab,13,none⟩=some (.int .i64 a.mark):=ha.at_ (i:=13) (by omega)
 have f13:=ha.fz 13
 obtain ⟨s0,_⟩:=hf.at_
 have hT:=Lib.hid (mem_Time hf.mem)
 generalize m.t=t at *
 clear ha hf ht
 go_enter Try.func89,Try.ntmps89
 go_wp2_with fail
 refine (hT.out).mono ?_
 rintro e w1 ⟨rfl,rfl⟩
 go_wp2
 go_end0
 exact ⟨rfl,rfl⟩
set_option maxHeartbeats 800000 in
theorem fact_end (ha:FactIn w L E fb ab F a fv lv wv) :
  Calls Try.prog 90 #[.pointer (some ⟨ab,0,none⟩)] w fun e w' => e=.returned (.tuple #[])∧w'=((w.setCell ⟨ab,7,none⟩ (.int .i64 0)).setCell ⟨ab,9,none⟩ (.slice none 0 0)).setCell ⟨ab,10,none⟩ (.slice none 0 0):=by
 have r7:w.cell? ⟨ab,7,none⟩=some (.int .i64 (a.st:Nat)):=ha.at_ (i:=7) (by omega)
 have r9:w.cell? ⟨ab,9,none⟩=some lv:=ha.at_ (i:=9) (by omega)
 have r10:w.cell? ⟨ab,10,none⟩=some wv:=ha.at_ (i:=10) (by omega)
 have f7:=ha.fz 7
 have f9:=ha.fz 9
 have f10:=ha.fz 10
 clear ha
 go_enter Try.func90,Try.ntmps90
 go_wp2
 go_end0
 exact ⟨rfl,rfl⟩
end
end
section
open Go.RowKit
section
variable {w:World} {lo b fb:Nat} {F:FcS} {m:MemS}
def hasF (F:FcS) (s n:Int):Bool:=decide (0≤s) && (decide (s < (F.S:Int)) && (decide (0≤n) && decide (n < (F.B:Int))))
set_option maxHeartbeats 800000 in
theorem fdb_has (hf:FdbAt w lo b fb F m) (s n:Int) :
  Calls Try.prog 52 #[.pointer (some ⟨fb,0,none⟩),.int .i64 s,.int .i64 n] w (Says (.bool (hasF F s n)) w):=by
 obtain ⟨s0,s1,s2,s3,s4,s5,s6⟩:=hf.at_
 obtain ⟨z,hz⟩:∃ z,z=hasF F s n:=⟨_,rfl⟩
 rw [← hz]
 have HZ:=Lib.hid hz
 clear hf hz
 by_cases c1:0≤s
 ·by_cases c2:s < (F.S:Int)
  ·by_cases c3:0≤n
   ·by_cases c4:n < (F.B:Int)
    ·go_enter Try.func52,Try.ntmps52
     go_wp2
     go_ret
     exact ⟨ret_bool (by rw [HZ.out]; unfold hasF; simp [c1,c2,c3,c4]),by first | exact Below.refl _ _ | exact below_drewN (Below.refl _ _) _⟩
    ·go_enter Try.func52,Try.ntmps52
     go_wp2
     go_ret
     exact ⟨ret_bool (by rw [HZ.out]; unfold hasF; simp [c1,c2,c3,c4] <;> (intros; omega)),by first | exact Below.refl _ _ | exact below_drewN (Below.refl _ _) _⟩
   ·go_enter Try.func52,Try.ntmps52
    go_wp2
    go_ret
    exact ⟨ret_bool (by rw [HZ.out]; unfold hasF; simp [c1,c2,c3] <;> (intros; omega)),by first | exact Below.refl _ _ | exact below_drewN (Below.refl _ _) _⟩
  ·go_enter Try.func52,Try.ntmps52
   go_wp2
   go_ret
   exact ⟨ret_bool (by rw [HZ.out]; unfold hasF; simp [c1,c2] <;> (intros; omega)),by first | exact Below.refl _ _ | exact below_drewN (Below.refl _ _) _⟩
 ·go_enter Try.func52,Try.ntmps52
  go_wp2
  go_ret
  exact ⟨ret_bool (by rw [HZ.out]; unfold hasF; simp [c1] <;> (intros; omega)),by first | exact Below.refl _ _ | exact below_drewN (Below.refl _ _) _⟩
set_option maxHeartbeats 800000 in
theorem fdb_cell (hf:FdbAt w lo b fb F m) (s n:Nat) (hs:s < F.S) (hn:n < F.B) :
  Calls Try.prog 54 #[.pointer (some ⟨fb,0,none⟩),.int .i64 (s:Nat),.int .i64 (n:Nat)] w (Says (.int .i64 (F.cell (s * F.B + n):Nat)) w):=by
 obtain ⟨s0,s1,s2,s3,s4,s5,s6⟩:=hf.at_
 have hlt:s * F.B + n < F.S * F.B:=by
  have h9:(s + 1) * F.B≤F.S * F.B:=Nat.mul_le_mul_right _ hs
  rw [Nat.add_mul,Nat.one_mul] at h9
  omega
 have hcb:=hf.fits.cell hlt
 have hC:=hf.fits.C
 have hS:=hf.fits.S
 have hB:=hf.fits.B
 have hW:=hf.fits.W
 have hSB:=hf.fits.SB
 obtain ⟨J,hJ⟩:∃ J,J=s * F.B:=⟨_,rfl⟩
 obtain ⟨H,hH⟩:∃ H,H=J + n:=⟨_,rfl⟩
 obtain ⟨K,hK⟩:∃ K,K=H * F.W:=⟨_,rfl⟩
 obtain ⟨C,hCC⟩:∃ C,C=F.ba + K:=⟨_,rfl⟩
 have hce:F.cell (s * F.B + n)=C:=by rw [hCC,hK,hH,hJ]; rfl
 rw [hce] at hcb ⊢
 have z1:wrap64 ((s:Int) * (F.B:Int))=(J:Int)∧IntKind.i64.wrap ((s:Int) * (F.B:Int))=(J:Int):=by
  rw [← Int.natCast_mul,← hJ]
  exact ⟨IntWalk.wrap64_in _ (by omega),IntWalk.i64_in _ (by omega)⟩
 have z2:wrap64 ((J:Int) + (n:Int))=(H:Int)∧IntKind.i64.wrap ((J:Int) + (n:Int))=(H:Int):=by
  rw [← Int.natCast_add,← hH]
  exact ⟨IntWalk.wrap64_in _ (by clear z1; omega),IntWalk.i64_in _ (by clear z1; omega)⟩
 have z3:wrap64 ((H:Int) * (F.W:Int))=(K:Int)∧IntKind.i64.wrap ((H:Int) * (F.W:Int))=(K:Int):=by
  rw [← Int.natCast_mul,← hK]
  exact ⟨IntWalk.wrap64_in _ (by clear z1 z2; omega),IntWalk.i64_in _ (by clear z1 z2; omega)⟩
 have z4:wrap64 ((F.ba:Int) + (K:Int))=(C:Int)∧IntKind.i64.wrap ((F.ba:Int) + (K:Int))=(C:Int):=by
  rw [← Int.natCast_add,← hCC]
  exact ⟨IntWalk.wrap64_in _ (by clear z1 z2 z3; omega),IntWalk.i64_in _ (by clear z1 z2 z3; omega)⟩
 obtain ⟨x1,x2⟩:=z1
 obtain ⟨x3,x4⟩:=z2
 obtain ⟨x5,x6⟩:=z3
 obtain ⟨x7,x8⟩:=z4
 have HWD:=Lib.hid fun W => fdb_wide F.S F.B F.n (by have:=hf.fits.n; clear x1 x2 x3 x4 x5 x6 x7 x8; omega) W
 have hW9:((1 + 2 * F.n:Nat):Int)=(F.W:Int):=rfl
 have HKP:=Lib.hid fun (q:Nat) (w1:World) (hb:Below (w.drewN q).heap.size (w.drewN q) w1) => show (w1.cell? ⟨fb,1,none⟩=some (.int .i64 (F.ba:Nat))∧w1.cell? ⟨fb,3,none⟩=some (.int .i64 (F.S:Nat))∧w1.cell? ⟨fb,4,none⟩=some (.int .i64 (F.B:Nat))∧w1.cell? ⟨fb,5,none⟩=some (.int .i64 (F.n:Nat)))∧Below w.heap.size w w1 from
  ⟨⟨(hb.cell (p:=⟨fb,1,none⟩) hf.lt).trans s1,(hb.cell (p:=⟨fb,3,none⟩) hf.lt).trans s3,(hb.cell (p:=⟨fb,4,none⟩) hf.lt).trans s4,(hb.cell (p:=⟨fb,5,none⟩) hf.lt).trans s5⟩,(below_drewN (Below.refl _ _) q).trans hb⟩
 clear hf hlt hcb hC hS hB hW hSB hJ hH hK hCC hce
 go_enter Try.func54,Try.ntmps54
 go_wp2_with fail
 go_region_held3 (fun w' => w'.cell? ⟨fb,1,none⟩=some (.int .i64 (F.ba:Nat))∧w'.cell? ⟨fb,3,none⟩=some (.int .i64 (F.S:Nat))∧w'.cell? ⟨fb,4,none⟩=some (.int .i64 (F.B:Nat))∧w'.cell? ⟨fb,5,none⟩=some (.int .i64 (F.n:Nat))) (first | exact HB1.out.1 | go_keep) (first
  | (go_at_call 48; (with_reducible refine Calls.mono (HWD.out _) ?_); rintro e w1 ⟨rfl,hb1⟩; rw [hW9]; have HB1:=Lib.hid (HKP.out _ _ hb1); clear hb1))
 go_wp2
 go_ret
 exact ⟨by first | rfl | (simp; done),HB1.out.2⟩
end
end
end Go.Proofs.Ythloabdfkakehaa
