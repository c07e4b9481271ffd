/-
  Words and contracts that a statement's proof rests on (FdX, FdY). No statement is proved here.
-/
import Derived.Test.YthloabdfkakehaaFdC
import Derived.Test.YthloabdfkakehaaPlainFk
set_option linter.unusedVariables false
set_option linter.unusedSimpArgs false
namespace Go.Proofs.Ythloabdfkakehaa
section
open Go.RowKit
section
variable {w:World} {lo b fb:Nat} {F:FcS} {m:MemS}
def hasF (F:FcS) (s n:Int):Bool:=decide (0≤s) && (decide (s < (F.S:Int)) && (decide (0≤n) && decide (n < (F.B:Int))))
set_option maxHeartbeats 800000 in
theorem fdb_has (hf:FdbAt w lo b fb F m) (s n:Int) :
  Calls Try.prog 52 #[.pointer (some ⟨fb,0,none⟩),.int .i64 s,.int .i64 n] w (Says (.bool (hasF F s n)) w):=by
 obtain ⟨s0,s1,s2,s3,s4,s5,s6⟩:=hf.at_
 obtain ⟨z,hz⟩:∃ z,z=hasF F s n:=⟨_,rfl⟩
 rw [← hz]
 have HZ:=Lib.hid hz
 clear hf hz
 by_cases c1:0≤s
 ·by_cases c2:s < (F.S:Int)
  ·by_cases c3:0≤n
   ·by_cases c4:n < (F.B:Int)
    ·go_enter Try.func52,Try.ntmps52
     go_wp2
     go_ret
     exact ⟨ret_bool (by rw [HZ.out]; unfold hasF; simp [c1,c2,c3,c4]),by first | exact Below.refl _ _ | exact below_drewN (Below.refl _ _) _⟩
    ·go_enter Try.func52,Try.ntmps52
     go_wp2
     go_ret
     exact ⟨ret_bool (by rw [HZ.out]; unfold hasF; simp [c1,c2,c3,c4] <;> (intros; omega)),by first | exact Below.refl _ _ | exact below_drewN (Below.refl _ _) _⟩
   ·go_enter Try.func52,Try.ntmps52
    go_wp2
    go_ret
    exact ⟨ret_bool (by rw [HZ.out]; unfold hasF; simp [c1,c2,c3] <;> (intros; omega)),by first | exact Below.refl _ _ | exact below_drewN (Below.refl _ _) _⟩
  ·go_enter Try.func52,Try.ntmps52
   go_wp2
   go_ret
   exact ⟨ret_bool (by rw [HZ.out]; unfold hasF; simp [c1,c2] <;> (intros; omega)),by first | exact Below.refl _ _ | exact below_drewN (Below.refl _ _) _⟩
 ·go_enter Try.func52,Try.ntmps52
  go_wp2
  go_ret
  exact ⟨ret_bool (by rw [HZ.out]; unfold hasF; simp [c1] <;> (intros; omega)),by first | exact Below.refl _ _ | exact below_drewN (Below.refl _ _) _⟩
set_option maxHeartbeats 800000 in
theorem fdb_cell (hf:FdbAt w lo b fb F m) (s n:Nat) (hs:s < F.S) (hn:n < F.B) :
  Calls Try.prog 54 #[.pointer (some ⟨fb,0,none⟩),.int .i64 (s:Nat),.int .i64 (n:Nat)] w (Says (.int .i64 (F.cell (s * F.B + n):Nat)) w):=by
 obtain ⟨s0,s1,s2,s3,s4,s5,s6⟩:=hf.at_
 have hlt:s * F.B + n < F.S * F.B:=by
  have h9:(s + 1) * F.B≤F.S * F.B:=Nat.mul_le_mul_right _ hs
  rw [Nat.add_mul,Nat.one_mul] at h9
  omega
 have hcb:=hf.fits.cell hlt
 have hC:=hf.fits.C
 have hS:=hf.fits.S
 have hB:=hf.fits.B
 have hW:=hf.fits.W
 have hSB:=hf.fits.SB
 obtain ⟨J,hJ⟩:∃ J,J=s * F.B:=⟨_,rfl⟩
 obtain ⟨H,hH⟩:∃ H,H=J + n:=⟨_,rfl⟩
 obtain ⟨K,hK⟩:∃ K,K=H * F.W:=⟨_,rfl⟩
 obtain ⟨C,hCC⟩:∃ C,C=F.ba + K:=⟨_,rfl⟩
 have hce:F.cell (s * F.B + n)=C:=by rw [hCC,hK,hH,hJ]; rfl
 rw [hce] at hcb ⊢
 have z1:wrap64 ((s:Int) * (F.B:Int))=(J:Int)∧IntKind.i64.wrap ((s:Int) * (F.B:Int))=(J:Int):=by
  rw [← Int.natCast_mul,← hJ]
  exact ⟨IntWalk.wrap64_in _ (by omega),IntWalk.i64_in _ (by omega)⟩
 have z2:wrap64 ((J:Int) + (n:Int))=(H:Int)∧IntKind.i64.wrap ((J:Int) + (n:Int))=(H:Int):=by
  rw [← Int.natCast_add,← hH]
  exact ⟨IntWalk.wrap64_in _ (by clear z1; omega),IntWalk.i64_in _ (by clear z1; omega)⟩
 have z3:wrap64 ((H:Int) * (F.W:Int))=(K:Int)∧IntKind.i64.wrap ((H:Int) * (F.W:Int))=(K:Int):=by
  rw [← Int.natCast_mul,← hK]
  exact ⟨IntWalk.wrap64_in _ (by clear z1 z2; omega),IntWalk.i64_in _ (by clear z1 z2; omega)⟩
 have z4:wrap64 ((F.ba:Int) + (K:Int))=(C:Int)∧IntKind.i64.wrap ((F.ba:Int) + (K:Int))=(C:Int):=by
  rw [← Int.natCast_add,← hCC]
  exact ⟨IntWalk.wrap64_in _ (by clear z1 z2 z3; omega),IntWalk.i64_in _ (by clear z1 z2 z3; omega)⟩
 obtain ⟨x1,x2⟩:=z1
 obtain ⟨x3,x4⟩:=z2
 obtain ⟨x5,x6⟩:=z3
 obtain ⟨x7,x8⟩:=z4
 have HWD:=Lib.hid fun W => fdb_wide F.S F.B F.n (by have:=hf.fits.n; clear x1 x2 x3 x4 x5 x6 x7 x8; omega) W
 have hW9:((1 + 2 * F.n:Nat):Int)=(F.W:Int):=rfl
 have HKP:=Lib.hid fun (q:Nat) (w1:World) (hb:Below (w.drewN q).heap.size (w.drewN q) w1) => show (w1.cell? ⟨fb,1,none⟩=some (.int .i64 (F.ba:Nat))∧w1.cell? ⟨fb,3,none⟩=some (.int .i64 (F.S:Nat))∧w1.cell? ⟨fb,4,none⟩=some (.int .i64 (F.B:Nat))∧w1.cell? ⟨fb,5,none⟩=some (.int .i64 (F.n:Nat)))∧Below w.heap.size w w1 from
  ⟨⟨(hb.cell (p:=⟨fb,1,none⟩) hf.lt).trans s1,(hb.cell (p:=⟨fb,3,none⟩) hf.lt).trans s3,(hb.cell (p:=⟨fb,4,none⟩) hf.lt).trans s4,(hb.cell (p:=⟨fb,5,none⟩) hf.lt).trans s5⟩,(below_drewN (Below.refl _ _) q).trans hb⟩
 clear hf hlt hcb hC hS hB hW hSB hJ hH hK hCC hce
 go_enter Try.func54,Try.ntmps54
 go_wp2_with fail
 go_region_held3 (fun w' => w'.cell? ⟨fb,1,none⟩=some (.int .i64 (F.ba:Nat))∧w'.cell? ⟨fb,3,none⟩=some (.int .i64 (F.S:Nat))∧w'.cell? ⟨fb,4,none⟩=some (.int .i64 (F.B:Nat))∧w'.cell? ⟨fb,5,none⟩=some (.int .i64 (F.n:Nat))) (first | exact HB1.out.1 | go_keep) (first
  | (go_at_call 48; (with_reducible refine Calls.mono (HWD.out _) ?_); rintro e w1 ⟨rfl,hb1⟩; rw [hW9]; have HB1:=Lib.hid (HKP.out _ _ hb1); clear hb1))
 go_wp2
 go_ret
 exact ⟨by first | rfl | (simp; done),HB1.out.2⟩
end
end
section
open Go.RowKit
section
variable {w:World} {lo b fb L:Nat} {E:Nat→Prop} {F:FcS} {m:MemS}
def newA (who:Int) (k:Wk) (l0 lc h0 hc st:Nat):FaS:={ who:=who,wk:=k,l0:=l0,lc:=lc,h0:=h0,hc:=hc,st:=st,held:=0,ld:=[],wr:=[],od:=0,wt:=0,mark:=0,ans:=0,vain:=0 }
set_option maxRecDepth 20000 in
set_option maxHeartbeats 1600000 in
theorem fdb_oneN (hf:FdbAt w lo b fb F m) (who s n:Int) (fv:Value) (hno:who < 0 ∨ hasF F s n=false) :
  Calls Try.prog 68 #[.pointer (some ⟨fb,0,none⟩),.int .i64 who,.int .i64 s,.int .i64 n,fv] w (Says (.pointer none) w):=by
 have HH:=Lib.hid (fdb_has hf s n)
 clear hf
 by_cases hw:who < 0
 ·go_enter Try.func68,Try.ntmps68
  go_wp2_with (first
   | go_big_skip
   | (go_at_call 52; (with_reducible refine Calls.mono (HH.out) ?_); rintro e w1 ⟨rfl,hb1⟩)
   | fail)
  go_wp2
  go_ret
  exact ⟨rfl,by first | exact Below.refl _ _ | exact below_drewN (Below.refl _ _) _⟩
 ·have hz:hasF F s n=false:=by rcases hno with h | h; exact absurd h hw; exact h
  rw [hz] at HH
  have d1:decide (who < 0)=false:=decide_eq_false hw
  clear hno hz
  go_enter Try.func68,Try.ntmps68
  go_wp2_with (first
   | go_big_skip
   | (go_at_call 52; (with_reducible refine Calls.mono (HH.out) ?_); rintro e w1 ⟨rfl,hb1⟩; have HB1:=Lib.hid hb1; clear hb1)
   | fail)
  go_wp2
  go_ret
  exact ⟨rfl,HB1.out⟩
theorem newA_at {W:World} {k:Wk} {fv:Value} {who:Int} {T C h0:Nat} (hB:Below w.heap.size w W) (hk:WkAt w E k fv) (hE:∀ k,E k→L≤k∧k < w.heap.size) (hL:L≤w.heap.size) (hC:C=F.cell h0) :
  FactAt (W.alloc (.cells #[.pointer (some ⟨fb,0,none⟩),.int .i64 who,fv,.int .i64 (T:Nat),.int .i64 1,.int .i64 (C:Nat),.int .i64 (F.W:Nat),.int .i64 2,.int .i64 0,.slice none 0 0,.slice none 0 0,.int .i64 0,.int .i64 0,.int .i64 0,.int .i64 0,.int .i64 0] 93)) L (fun k => E k ∨ (w.heap.size≤k∧k < (W.alloc (.cells #[.pointer (some ⟨fb,0,none⟩),.int .i64 who,fv,.int .i64 (T:Nat),.int .i64 1,.int .i64 (C:Nat),.int .i64 (F.W:Nat),.int .i64 2,.int .i64 0,.slice none 0 0,.slice none 0 0,.int .i64 0,.int .i64 0,.int .i64 0,.int .i64 0,.int .i64 0] 93)).heap.size)) fb W.heap.size F (newA who k T 1 h0 1 2):=by
 subst hC
 refine ⟨fv,.slice none 0 0,.slice none 0 0,?_⟩
 have hrow:=World.rowIs_alloc W #[.pointer (some ⟨fb,0,none⟩),.int .i64 who,fv,.int .i64 (T:Nat),.int .i64 1,.int .i64 (F.cell h0:Nat),.int .i64 (F.W:Nat),.int .i64 2,.int .i64 0,.slice none 0 0,.slice none 0 0,.int .i64 0,.int .i64 0,.int .i64 0,.int .i64 0,.int .i64 0] 93 (factF fb F (newA who k T 1 h0 1 2) fv (.slice none 0 0) (.slice none 0 0)) (fun i hi => by
  match i,hi with
  | 0,_ => rfl
  | 1,_ => rfl
  | 2,_ => rfl
  | 3,_ => rfl
  | 4,_ => rfl
  | 5,_ => rfl
  | 6,_ => show some (Value.int .i64 (F.W:Nat))=some (Value.int .i64 ((1 * F.W:Nat):Int)); rw [Nat.one_mul]
  | 7,_ => rfl
  | 8,_ => rfl
  | 9,_ => rfl
  | 10,_ => rfl
  | 11,_ => rfl
  | 12,_ => rfl
  | 13,_ => rfl
  | 14,_ => rfl
  | 15,_ => rfl
  | _ + 16,hh => exact absurd hh (by simp))
 generalize hO:Obj.cells _ _=O at hrow ⊢
 have hb2:=hB.alloc hB.size O
 have hz:(W.alloc O).heap.size=W.heap.size + 1:=by simp
 exact {
  row:=hrow
  own:=.inr ⟨hB.size,by omega⟩
  wk:=hk.keep (fun j hj => ⟨.inl hj,Nat.lt_of_lt_of_le (hE j hj).2 hB.size⟩) fun j hj => hb2.block j (hE j hj).2
  ld:=⟨rfl,.inl ⟨rfl,rfl⟩⟩
  wr:=⟨rfl,.inl ⟨rfl,rfl⟩⟩
  ldE:=fun j h => by cases h
  wrE:=fun j h => by cases h
  low:=fun j hj => by
   rcases hj with hj | hj
   ·have:=hE j hj; have:=hB.size; omega
   ·omega
  tb:=⟨Int.le_refl 0,show (0:Int)≤4611686018427387904 by decide⟩
  an:=⟨show (-1048576:Int)≤0 by decide,show (0:Int)≤1048576 by decide⟩ }
def Began (lo b fb L:Nat) (E:Nat→Prop) (F:FcS) (m:MemS) (a:FaS) (w:World) (e:Ending) (w':World):Prop :=
 ∃ ab,e=.returned (.pointer (some ⟨ab,0,none⟩))∧w.heap.size≤ab∧Below w.heap.size w w'∧FactAt w' L (fun k => E k ∨ (w.heap.size≤k∧k < w'.heap.size)) fb ab F a
set_option maxRecDepth 20000 in
set_option maxHeartbeats 1600000 in
theorem fdb_oneY (hf:FdbAt w lo b fb F m) (who:Int) (hw:0≤who) (s n:Nat) (hs:s < F.S) (hn:n < F.B) {k:Wk} {fn:Fn} {caps:Array Value} (hk:WkAt w E k (.func fn #[] caps)) (hE:∀ k,E k→L≤k∧k < w.heap.size) (hLw:L≤w.heap.size) :
  Calls Try.prog 68 #[.pointer (some ⟨fb,0,none⟩),.int .i64 who,.int .i64 (s:Nat),.int .i64 (n:Nat),.func fn #[] caps] w (Began lo b fb L E F m (newA who k (F.lk + s) 1 (s * F.B + n) 1 2) w):=by
 have hz:hasF F s n=true:=by unfold hasF; simp [hs,hn]
 have HH:=Lib.hid (fdb_has hf s n)
 rw [hz] at HH
 have d1:decide (who < 0)=false:=decide_eq_false (by omega)
 have HCE:=Lib.hid fun W (hb:Below w.heap.size w W) => fdb_cell (hf.below hb) s n hs hn
 have HWD:=Lib.hid fun W => fdb_wide F.S F.B F.n (by have:=hf.fits.n; omega) W
 have hW9:((1 + 2 * F.n:Nat):Int)=(F.W:Int):=rfl
 have HKP:=Lib.hid fun (W W':World) (hB:Below w.heap.size w W) (q:Nat) (hb:Below (W.drewN q).heap.size (W.drewN q) W') => show Below w.heap.size w W' from (below_drewN hB q).trans (hb.mono hB.size)
 have HSS:=Lib.hid fun (W:World) (hB:Below w.heap.size w W) => show W.cell? ⟨fb,1,none⟩=some (.int .i64 (F.ba:Nat))∧W.cell? ⟨fb,2,none⟩=some (.int .i64 (F.lk:Nat))∧W.cell? ⟨fb,3,none⟩=some (.int .i64 (F.S:Nat))∧W.cell? ⟨fb,4,none⟩=some (.int .i64 (F.B:Nat))∧W.cell? ⟨fb,5,none⟩=some (.int .i64 (F.n:Nat)) from
  ⟨(hf.below hB).at_.2.1,(hf.below hB).at_.2.2.1,(hf.below hB).at_.2.2.2.1,(hf.below hB).at_.2.2.2.2.1,(hf.below hB).at_.2.2.2.2.2.1⟩
 obtain ⟨C,hC⟩:∃ C,C=F.cell (s * F.B + n):=⟨_,rfl⟩
 rw [← hC] at HCE
 obtain ⟨T,hT⟩:∃ T,T=F.lk + s:=⟨_,rfl⟩
 have hl:=hf.fits.l
 have hL:=hf.fits.L
 have hC9:=hf.fits.C
 obtain ⟨x1,x2⟩:=wrap_addF (k:=F.lk) (l:=s) (by omega) (by omega)
 rw [← hT] at x1 x2
 have HCC:=Lib.hid hC
 have HTT:=Lib.hid hT
 have HK:=Lib.hid hk
 have HE:=Lib.hid hE
 have HL:=Lib.hid hLw
 clear hf hz hl hL hC9 hC hT hk hE hLw
 go_enter Try.func68,Try.ntmps68
 go_wp2_with (first
  | go_big_skip
  | (go_at_call 52; (with_reducible refine Calls.mono (HH.out) ?_); rintro e w1 ⟨rfl,hb1⟩; have HB1:=Lib.hid hb1; clear hb1)
  | fail)
 have r9:=HSS.out w1 HB1.out
 go_region_held3 (fun w' => w'.cell? ⟨fb,1,none⟩=some (.int .i64 (F.ba:Nat))∧w'.cell? ⟨fb,2,none⟩=some (.int .i64 (F.lk:Nat))∧w'.cell? ⟨fb,3,none⟩=some (.int .i64 (F.S:Nat))∧w'.cell? ⟨fb,4,none⟩=some (.int .i64 (F.B:Nat))∧w'.cell? ⟨fb,5,none⟩=some (.int .i64 (F.n:Nat))) (first | exact HSS.out _ HB2.out | exact HSS.out _ HB3.out | exact r9 | go_keep) (first
  | (go_at_call 54; (with_reducible refine Calls.mono (HCE.out _ (Below.drew HB1.out)) ?_); rintro e w2 ⟨rfl,hb2⟩; have HB2:=Lib.hid (Below.trans (Below.drew HB1.out) (hb2.mono HB1.out.size)); clear hb2)
  | (go_at_call 48; (with_reducible refine Calls.mono (HWD.out _) ?_); rintro e w3 ⟨rfl,hb3⟩; rw [hW9]; have HB3:=Lib.hid (Below.trans HB2.out (hb3.mono HB2.out.size)); clear hb3))
 have HB4:=Lib.hid (HB3.out)
 go_wp2
 go_ret
 refine ⟨w3.heap.size,by first | rfl | (simp; done),HB3.out.size,HB3.out.alloc HB3.out.size _,?_⟩
 rw [← HTT.out]
 exact newA_at HB3.out HK.out HE.out HL.out HCC.out
end
end
end Go.Proofs.Ythloabdfkakehaa
