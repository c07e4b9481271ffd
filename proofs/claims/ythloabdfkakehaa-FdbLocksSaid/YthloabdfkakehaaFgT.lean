/-
  Words and contracts that a statement's proof rests on (FgT). No statement is proved here.
-/
import Derived.WalkMore
import Derived.Test.YthloabdfkakehaaBkE
import Derived.Test.YthloabdfkakehaaFgE
import Derived.Test.YthloabdfkakehaaFeC
import Derived.Test.YthloabdfkakehaaFgF
import Derived.Test.YthloabdfkakehaaFeJ
set_option linter.unusedVariables false
set_option linter.unusedSimpArgs false
namespace Go.Proofs.Ythloabdfkakehaa
open Go.RowKit
section
variable {w:World}
theorem sm_more {w w':World} {lo b fb L x:Nat} {Es:Nat→Nat→Prop} {ab:Nat→Nat} {g:Nat→Nat→Pl} (h:ActsAt w lo b fb L smF (smX 9).1 1 (updA (fun _ => begA smF 0 smO) 0 (smX 9).2) ab Es g) (hb:Below w.heap.size w w') (ha:FactAt w' L (newE w w') fb x smF (begA smF 1 smP)) :
  OneAt w' lo b fb L smF (smX 9).1 2 (updA (fun _ => begA smF 0 smO) 0 (smX 9).2) (updN ab 1 x) 1 (smY 0).2:=by
 obtain ⟨e1,e2,e3,e4,e5,e6,e7,e8,e9,e10⟩:=beg_mark smF 1 smP
 have hne4:(begA smF 1 smP).st ≠ 4:=by rcases e10 with e | ⟨_,e⟩ <;> rw [e] <;> decide
 have h9:=h.more hb ha (h.inv.more (beg_ok h.fd.fits (by decide) smP_ok) (beg_stg h.fd.fits (by decide) smP_ok _ g) e2 hne4 fun i hi hst => by
  have hi0:i=0:=by omega
  subst hi0
  rw [updA_same] at hst
  exact absurd smX_end.1 hst) (begA_rng _ _ _)
 exact ⟨_,g,h9⟩
theorem sm_first {w w':World} {lo b fb L x:Nat} (hf:FdbAt w lo b fb smF smM) (hb:Below w.heap.size w w') (ha:FactAt w' L (newE w w') fb x smF (begA smF 0 smO)) :
  OneAt w' lo b fb L smF (smX 0).1 1 (fun _ => begA smF 0 smO) (fun _ => x) 0 (smX 0).2:=by
 obtain ⟨e1,e2,e3,e4,e5,e6,e7,e8,e9,e10⟩:=beg_mark smF 0 smO
 have h0:ActsAt w lo b fb L smF smM 0 (fun _ => begA smF 0 smO) (fun _ => x) (fun _ _ => False) (fun _ _ => pl0):=ActsAt.none_ hf _ _ _
 have h1:=h0.more hb ha (h0.inv.more (beg_ok sm_fit (by decide) smO_ok) (beg_stg sm_fit (by decide) smO_ok _ _) e2 (by rcases e10 with e | ⟨_,e⟩ <;> rw [e] <;> decide) fun i hi => absurd hi (by omega)) (begA_rng _ _ _)
 have e:updN (fun _ => x) 0 x=fun _ => x:=by
  funext i
  unfold updN
  split <;> rfl
 rw [e] at h1
 exact ⟨_,_,h1⟩
theorem smX_step {w:World} {lo b fb L x k:Nat} {A:Nat→FaS} (h:OneAt w lo b fb L smF (smX k).1 1 A (fun _ => x) 0 (smX k).2) (hk:k < 9) (h1:lo + 3≤L) (h2:fb < L) (hLw:L≤w.heap.size) {z:Bool} (hz:decide (k=8)=z) :
  Calls Try.prog 20 #[.pointer (some ⟨x,0,none⟩)] w fun e w' => e=.returned (.bool z)∧Tch (FarD lo L) w w'∧OneAt w' lo b fb L smF (smX (k + 1)).1 1 A (fun _ => x) 0 (smX (k + 1)).2:=by
 have ht:=smX_t k (by omega)
 have ht9:0≤(smX k).1.t∧(smX k).1.t≤4611686018427387900:=by rw [ht]; omega
 have hd:decide ((smX (k + 1)).2.st=0)=z:=by
  rw [← hz]
  by_cases e:k=8
  ·subst e; rw [decide_eq_true smX_end.1]; rfl
  ·rw [decide_eq_false (smX_on (k + 1) (by omega)),decide_eq_false e]
 rw [← hd]
 exact one_Step h (by decide) h1 h2 hLw ht9 (smX_on k hk)
theorem smY_step {w:World} {lo b fb L x y k:Nat} {A:Nat→FaS} (h:OneAt w lo b fb L smF (smY k).1 2 A (updN (fun _ => x) 1 y) 1 (smY k).2) (hk:k < 4) (h1:lo + 3≤L) (h2:fb < L) (hLw:L≤w.heap.size) {z:Bool} (hz:decide (k=3)=z) :
  Calls Try.prog 20 #[.pointer (some ⟨y,0,none⟩)] w fun e w' => e=.returned (.bool z)∧Tch (FarD lo L) w w'∧OneAt w' lo b fb L smF (smY (k + 1)).1 2 A (updN (fun _ => x) 1 y) 1 (smY (k + 1)).2:=by
 have ht:=smY_t k (by omega)
 have ht9:0≤(smY k).1.t∧(smY k).1.t≤4611686018427387900:=by rw [ht]; omega
 have hd:decide ((smY (k + 1)).2.st=0)=z:=by
  rw [← hz]
  by_cases e:k=3
  ·subst e; rw [decide_eq_true smY_end.1]; rfl
  ·rw [decide_eq_false (smY_on (k + 1) (by omega)),decide_eq_false e]
 rw [← hd]
 exact one_Step h (by decide) h1 h2 hLw ht9 (smY_on k hk)
theorem sm_tell {w:World} {lo b fb L x y:Nat} {A:Nat→FaS} (h:OneAt w lo b fb L smF (smY 4).1 2 (updA A 0 (smX 9).2) (updN (fun _ => x) 1 y) 1 (smY 4).2) :
  Calls Try.prog 21 #[.pointer (some ⟨x,0,none⟩)] w (fun e w' => e=.returned (.bool true)∧w=w')∧Calls Try.prog 21 #[.pointer (some ⟨y,0,none⟩)] w (fun e w' => e=.returned (.bool true)∧w=w') ∧
  Calls Try.prog 23 #[.pointer (some ⟨x,0,none⟩)] w (fun e w' => e=.returned (.int .i64 3)∧w=w')∧Calls Try.prog 23 #[.pointer (some ⟨y,0,none⟩)] w (fun e w' => e=.returned (.int .i64 5)∧w=w') ∧
  Calls Try.prog 22 #[.pointer (some ⟨x,0,none⟩)] w (fun e w' => e=.returned (.int .i64 (smX 9).2.mark)∧w=w')∧Calls Try.prog 22 #[.pointer (some ⟨y,0,none⟩)] w (fun e w' => e=.returned (.int .i64 (smY 4).2.mark)∧w=w'):=by
 obtain ⟨Es,g,h⟩:=h
 have e0:updA (updA A 0 (smX 9).2) 1 (smY 4).2 0=(smX 9).2:=rfl
 have e1:updA (updA A 0 (smX 9).2) 1 (smY 4).2 1=(smY 4).2:=rfl
 have o0:=acts_Over h (i:=0) (by decide) (z:=true) (by rw [e0]; exact decide_eq_true smX_end.1)
 have o1:=acts_Over h (i:=1) (by decide) (z:=true) (by rw [e1]; exact decide_eq_true smY_end.1)
 have a0:=acts_Answer h (i:=0) (by decide)
 have a1:=acts_Answer h (i:=1) (by decide)
 rw [e0,if_pos smX_end.1,smX_end.2.1] at a0
 rw [e1,if_pos smY_end.1,smY_end.2.1] at a1
 have m0:=acts_Mark h (i:=0) (by decide)
 have m1:=acts_Mark h (i:=1) (by decide)
 rw [e0] at m0
 rw [e1] at m1
 exact ⟨o0,o1,a0,a1,m0,m1⟩
set_option maxRecDepth 20000 in
set_option maxHeartbeats 6400000 in
theorem law12_told (w:World):Calls Try.prog 11 #[] w (Says (.bool true) w):=by
 have HM:=Lib.hid fun W => show Calls Try.prog 6 #[.int .i64 16,.int .i64 1] W fun e w' => ∃ b,e=.returned (.tuple #[.pointer (some ⟨b,0,none⟩),.int .i64 0])∧MemAt w' 82 W.heap.size b smM∧Below W.heap.size W w' from mem_New 16 1 (by omega) (by omega) W
 have HTO:=Lib.hid fun W => law11_To 1 1 1 W
 have HNW:=Lib.hid fun W lo b (hm:MemAt W 82 lo b smM) (hlo:lo + 3≤W.heap.size) => show Calls Try.prog 7 #[.pointer (some ⟨b,0,none⟩),.int .i64 0,.int .i64 0,.agg #[.int .i64 1,.int .i64 1,.int .i64 1],.int .i64 2] W fun e w' => ∃ fb,e=.returned (.tuple #[.pointer (some ⟨fb,0,none⟩),.int .i64 0])∧W.heap.size≤fb∧FdbAt w' lo b fb smF smM∧Below W.heap.size W w' from fdb_NewY hm smF sm_fit hlo
 have HCE:=Lib.hid fun W => show Calls Try.prog 12 #[.agg #[.int .i64 1,.int .i64 1,.int .i64 1]] W (Says (.int .i64 3) W) from fdb_CellsY 1 1 1 (by decide) (by decide) (by decide) W
 have HLO:=Lib.hid fun W => show Calls Try.prog 13 #[.agg #[.int .i64 1,.int .i64 1,.int .i64 1]] W (Says (.int .i64 1) W) from fdb_LocksY 1 1 1 (by decide) (by decide) (by decide) W
 have HTK:=Lib.hid fun W => law8_ToK 1 2 W
 have HLN:=Lib.hid fun W lo b fb (hf:FdbAt W lo b fb smF smM) => show Calls Try.prog 25 #[.pointer (some ⟨fb,0,none⟩),.int .i64 0,.agg #[.int .i64 1,.int .u64 2],.int .i64 5,.int .u32 9] W (Began lo b fb W.heap.size noE smF smM (begA smF 0 smO) W) from
  fdb_LearnY hf 0 (by decide) 1 2 (by decide) (by decide +kernel) 5 (by decide) 9 (Nat.le_refl _)
 have HLU:=Lib.hid fun W lo b fb L m (hf:FdbAt W lo b fb smF m) (hL:L≤W.heap.size) => show Calls Try.prog 17 #[.pointer (some ⟨fb,0,none⟩),.int .i64 1,.agg #[.int .i64 1,.int .u64 2]] W (Began lo b fb L noE smF m (begA smF 1 smP) W) from
  fdb_LookupY hf 1 (by decide) 1 2 (by decide) (by decide +kernel) hL
 go_enter Try.func11,Try.ntmps11
 go_wp2_with fail
 refine (HM.out _).mono ?_
 rintro e w1 ⟨b,rfl,hm,hb1⟩
 have HMM:=Lib.hid hm
 have HB1:=Lib.hid hb1
 have HLO3:Hid (w.heap.size + 3≤w1.heap.size):=Lib.hid (mem_lo hm)
 clear hm hb1 HM
 go_wp2_with fail
 refine (HTO.out _).mono ?_
 rintro e w2 ⟨rfl,hb2⟩
 have HB2:Hid (Below w1.heap.size w1 w2):=((Below.refl w1.heap.size w1).alloc (Nat.le_refl _) _).trans (hb2.mono (by simp))
 have s0:w2.cell? ⟨w1.heap.size,0,none⟩=some (.int .i64 1):=(hb2.cell (p:=⟨w1.heap.size,0,none⟩) (by simp)).trans (by simp [go_sem])
 have s1:w2.cell? ⟨w1.heap.size,1,none⟩=some (.int .i64 1):=(hb2.cell (p:=⟨w1.heap.size,1,none⟩) (by simp)).trans (by simp [go_sem])
 have s2:w2.cell? ⟨w1.heap.size,2,none⟩=some (.int .i64 1):=(hb2.cell (p:=⟨w1.heap.size,2,none⟩) (by simp)).trans (by simp [go_sem])
 have hlt2:w1.heap.size < w2.heap.size:=Nat.lt_of_lt_of_le (by simp) hb2.size
 have HM2:=Lib.hid (HMM.out.below HB2.out)
 have HLO2:Hid (w.heap.size + 3≤w2.heap.size):=Lib.hid (Nat.le_trans HLO3.out HB2.out.size)
 clear hb2
 go_wp2_with fail
 refine (HNW.out _ _ _ HM2.out HLO2.out).mono ?_
 rintro e w3 ⟨fb,rfl,hfb,hfd,hb3⟩
 have HB3:Hid (Below w1.heap.size w1 w3):=HB2.out.trans (hb3.mono HB2.out.size)
 have t0:w3.cell? ⟨w1.heap.size,0,none⟩=some (.int .i64 1):=(hb3.cell (p:=⟨w1.heap.size,0,none⟩) hlt2).trans s0
 have t1:w3.cell? ⟨w1.heap.size,1,none⟩=some (.int .i64 1):=(hb3.cell (p:=⟨w1.heap.size,1,none⟩) hlt2).trans s1
 have t2:w3.cell? ⟨w1.heap.size,2,none⟩=some (.int .i64 1):=(hb3.cell (p:=⟨w1.heap.size,2,none⟩) hlt2).trans s2
 have hlt3:w1.heap.size < w3.heap.size:=Nat.lt_of_lt_of_le hlt2 hb3.size
 have HFD3:=Lib.hid hfd
 clear hb3 hfb hfd s0 s1 s2 hlt2 HM2 HMM HNW
 go_wp2_with (first | go_big_skip | fail)
 refine (HTO.out _).mono ?_
 rintro e w4 ⟨rfl,hb4⟩
 have HB4:Hid (Below w1.heap.size w1 w4):=HB3.out.trans (hb4.mono HB3.out.size)
 have s0:w4.cell? ⟨w1.heap.size,0,none⟩=some (.int .i64 1):=(hb4.cell (p:=⟨w1.heap.size,0,none⟩) hlt3).trans t0
 have s1:w4.cell? ⟨w1.heap.size,1,none⟩=some (.int .i64 1):=(hb4.cell (p:=⟨w1.heap.size,1,none⟩) hlt3).trans t1
 have s2:w4.cell? ⟨w1.heap.size,2,none⟩=some (.int .i64 1):=(hb4.cell (p:=⟨w1.heap.size,2,none⟩) hlt3).trans t2
 have hlt4:w1.heap.size < w4.heap.size:=Nat.lt_of_lt_of_le hlt3 hb4.size
 have HFD4:=Lib.hid (HFD3.out.below hb4)
 clear hb4 t0 t1 t2 hlt3
 go_wp2_with (first | go_big_skip | fail)
 refine (HCE.out _).mono ?_
 rintro e w5 ⟨rfl,hb5⟩
 have HB5:Hid (Below w1.heap.size w1 w5):=HB4.out.trans (hb5.mono HB4.out.size)
 have t0:w5.cell? ⟨w1.heap.size,0,none⟩=some (.int .i64 1):=(hb5.cell (p:=⟨w1.heap.size,0,none⟩) hlt4).trans s0
 have t1:w5.cell? ⟨w1.heap.size,1,none⟩=some (.int .i64 1):=(hb5.cell (p:=⟨w1.heap.size,1,none⟩) hlt4).trans s1
 have t2:w5.cell? ⟨w1.heap.size,2,none⟩=some (.int .i64 1):=(hb5.cell (p:=⟨w1.heap.size,2,none⟩) hlt4).trans s2
 have hlt5:w1.heap.size < w5.heap.size:=Nat.lt_of_lt_of_le hlt4 hb5.size
 have HFD5:=Lib.hid (HFD4.out.below hb5)
 clear hb5 s0 s1 s2 hlt4
 go_wp2_with (first | go_big_skip | fail)
 refine (HTO.out _).mono ?_
 rintro e w6 ⟨rfl,hb6⟩
 have HB6:Hid (Below w1.heap.size w1 w6):=HB5.out.trans (hb6.mono HB5.out.size)
 have HFD6:=Lib.hid (HFD5.out.below hb6)
 clear hb6 t0 t1 t2 hlt5
 go_wp2_with (first | go_big_skip | fail)
 refine (HLO.out _).mono ?_
 rintro e w7 ⟨rfl,hb7⟩
 have HB7:Hid (Below w1.heap.size w1 w7):=HB6.out.trans (hb7.mono HB6.out.size)
 have HFD7:=Lib.hid (HFD6.out.below hb7)
 clear hb7
 go_wp2_with (first | go_big_skip | fail)
 refine (HTK.out _).mono ?_
 rintro e w8 ⟨rfl,hb8⟩
 have HB8:Hid (Below w1.heap.size w1 w8):=HB7.out.trans (hb8.mono HB7.out.size)
 have HFD8:=Lib.hid (HFD7.out.below hb8)
 clear hb8 HFD7 HFD6 HFD5 HFD4 HFD3 HCE HLO HTO
 go_wp2_with fail
 obtain ⟨w9,hw9⟩:∃ w9,w9=w8.alloc (.cells #[.int .i64 1,.int .u64 2] 47):=⟨_,rfl⟩
 rw [← hw9]
 have HB9:Hid (Below w1.heap.size w1 w9):=by rw [hw9]; exact HB8.out.alloc HB8.out.size _
 have k0:w9.cell? ⟨w8.heap.size,0,none⟩=some (.int .i64 1):=by rw [hw9]; simp [go_sem]
 have k1:w9.cell? ⟨w8.heap.size,1,none⟩=some (.int .u64 2):=by rw [hw9]; simp [go_sem]
 have hlt9:w8.heap.size < w9.heap.size:=by rw [hw9]; simp
 have HFD9:Hid (FdbAt w9 w.heap.size b fb smF smM):=by rw [hw9]; exact HFD8.out.below ((Below.refl _ _).alloc (Nat.le_refl _) _)
 have HL9:Hid (w.heap.size + 3≤w9.heap.size∧fb < w9.heap.size∧w.heap.size + 3≤w8.heap.size):=⟨by have:=HLO2.out; have:=HB8.out.size; have:=HLO3.out; omega,HFD9.out.lt,by have:=HB8.out.size; have:=HLO3.out; omega⟩
 clear hw9 HB8 HFD8 HLO2 HB7 HB6 HB5 HB4 HB3 HB2
 obtain ⟨L,hL⟩:∃ L,L=w9.heap.size:=⟨_,rfl⟩
 refine (HLN.out _ _ _ _ HFD9.out).mono ?_
 rintro e w10 ⟨ab,rfl,hz,hb10,hact⟩
 have HO10:=Lib.hid (sm_first HFD9.out hb10 hact)
 rw [← hL] at HO10 HL9 hlt9
 have HZ10:Hid (L≤w10.heap.size):=by rw [hL]; exact hb10.size
 have q0:=(hb10.cell (p:=⟨w8.heap.size,0,none⟩) (by rw [← hL]; exact hlt9)).trans k0
 have q1:=(hb10.cell (p:=⟨w8.heap.size,1,none⟩) (by rw [← hL]; exact hlt9)).trans k1
 have HB10:Hid (Below w1.heap.size w1 w10):=HB9.out.trans (hb10.mono HB9.out.size)
 clear hb10 hact hz k0 k1 HB9 hL HLN HFD9
 generalize w8.heap.size=kb at *
 go_wp2
 go_loopw [8] (fun i wr => ∃ k:Nat,k≤8∧i=.int .i64 k∧Hid (OneAt wr w.heap.size b fb L smF (smX k).1 1 (fun _ => begA smF 0 smO) (fun _ => ab) 0 (smX k).2)∧Hid (Tch (FarD w.heap.size L) w10 wr)) (fun i _ => 9 - (intOf i).toNat)
 case atStart => exact ⟨0,by omega,rfl,HO10,Tch.refl _ _⟩
 case round =>
  obtain ⟨k,hk,rfl,HO,HT⟩:=hrel
  have g1:(k:Int) < 60:=by omega
  have g2:decide ((k:Int) < 60)=true:=decide_eq_true g1
  have HLr:Hid (L≤wr.heap.size):=Nat.le_trans HZ10.out HT.out.size
  by_cases h8:k=8
  ·have HS:=Lib.hid (smX_step HO.out (by omega) HL9.out.1 HL9.out.2.1 HLr.out (z:=true) (decide_eq_true h8))
   go_wp2_with (first | go_big_skip | fail)
   refine (HS.out).mono ?_
   rintro e w11 ⟨rfl,ht,ho⟩
   subst h8
   have HT11:=Lib.hid (HT.out.trans ht)
   have HO11:=Lib.hid ho
   have HZ11:Hid (L≤w11.heap.size):=Nat.le_trans HZ10.out HT11.out.size
   have hkb:kb < w10.heap.size:=Nat.lt_of_lt_of_le hlt9 HZ10.out
   have hfar:¬ FarD w.heap.size L kb:=fun h => by
    have:=HL9.out.2.2
    rcases h with h | h <;> omega
   have p0:=(HT11.out.cell (p:=⟨kb,0,none⟩) hkb hfar).trans q0
   have p1:=(HT11.out.cell (p:=⟨kb,1,none⟩) hkb hfar).trans q1
   have HFD11:Hid (FdbAt w11 w.heap.size b fb smF (smX 9).1):=by
    obtain ⟨Es,g,h⟩:=HO11.out
    exact h.fd
   clear ht ho HS q0 q1 hkb hfar HO HT g1 g2 HLr HO10 hlt9 hk
   go_wp2_with fail
   refine (HLU.out _ _ _ _ L _ HFD11.out HZ11.out).mono ?_
   rintro e w12 ⟨x1,rfl,hz,hb12,hact⟩
   have HO12:Hid (OneAt w12 w.heap.size b fb L smF (smY 0).1 2 (updA (fun _ => begA smF 0 smO) 0 (smX 9).2) (updN (fun _ => ab) 1 x1) 1 (smY 0).2):=by
    obtain ⟨Es,g,h⟩:=HO11.out
    exact sm_more h hb12 hact
   have HT12:Hid (Tch (FarD w.heap.size L) w10 w12):=HT11.out.trans (Tch.of_below hb12)
   clear hb12 hact hz HO11 HT11 HFD11 HLU p0 p1 HZ11
   go_wp2
   go_loopw [10] (fun i wr => ∃ k:Nat,k≤3∧i=.int .i64 k∧Hid (OneAt wr w.heap.size b fb L smF (smY k).1 2 (updA (fun _ => begA smF 0 smO) 0 (smX 9).2) (updN (fun _ => ab) 1 x1) 1 (smY k).2)∧Hid (Tch (FarD w.heap.size L) w10 wr)) (fun i _ => 4 - (intOf i).toNat)
   case atStart => exact ⟨0,by omega,rfl,HO12,HT12⟩
   case round =>
    obtain ⟨k,hk,rfl,HO,HT⟩:=hrel
    have g1:(k:Int) < 60:=by omega
    have g2:decide ((k:Int) < 60)=true:=decide_eq_true g1
    have HLr:Hid (L≤wr.heap.size):=Nat.le_trans HZ10.out HT.out.size
    by_cases h3:k=3
    ·have HS:=Lib.hid (smY_step HO.out (by omega) HL9.out.1 HL9.out.2.1 HLr.out (z:=true) (decide_eq_true h3))
     go_wp2_with (first | go_big_skip | fail)
     refine (HS.out).mono ?_
     rintro e w13 ⟨rfl,ht,ho⟩
     subst h3
     have HT13:=Lib.hid (HT.out.trans ht)
     obtain ⟨hv0,hv1,ha0,ha1,hm0,hm1⟩:=sm_tell ho
     have HV0:=Lib.hid hv0
     have HV1:=Lib.hid hv1
     have HA0:=Lib.hid ha0
     have HA1:=Lib.hid ha1
     have HM0:=Lib.hid hm0
     have HM1:=Lib.hid hm1
     obtain ⟨_,_,x2,x3⟩:=smX_end
     obtain ⟨_,_,y2⟩:=smY_end
     generalize (smX 9).2.mark=M0 at *
     generalize (smY 4).2.mark=M1 at *
     have d1:decide (M1 > M0)=true:=decide_eq_true (by omega)
     have d2:decide (M0 < M1)=true:=decide_eq_true (by omega)
     have d3:decide (M0 > 0)=true:=decide_eq_true (by omega)
     have d4:decide (0 < M0)=true:=decide_eq_true (by omega)
     clear ht ho HS hv0 hv1 ha0 ha1 hm0 hm1 HO HT g1 g2 HLr hk x2 x3 y2 HO12 HT12
     go_wp2_with (first | go_big_skip | fail)
     refine (HV0.out).mono ?_
     rintro e w14 ⟨rfl,rfl⟩
     go_wp2_with (first | go_big_skip | fail)
     refine (HA0.out).mono ?_
     rintro e w14 ⟨rfl,rfl⟩
     go_wp2_with (first | go_big_skip | fail)
     refine (HV1.out).mono ?_
     rintro e w14 ⟨rfl,rfl⟩
     go_wp2_with (first | go_big_skip | fail)
     refine (HA1.out).mono ?_
     rintro e w14 ⟨rfl,rfl⟩
     go_wp2_with (first | go_big_skip | fail)
     refine (HM1.out).mono ?_
     rintro e w14 ⟨rfl,rfl⟩
     go_wp2_with (first | go_big_skip | fail)
     refine (HM0.out).mono ?_
     rintro e w14 ⟨rfl,rfl⟩
     go_wp2_with (first | go_big_skip | fail)
     refine (HM0.out).mono ?_
     rintro e w14 ⟨rfl,rfl⟩
     go_wp2
     go_ret
     exact ⟨by first | rfl | (simp; done),HT13.out.below (HB1.out.trans (HB10.out.mono HB1.out.size)) (fun k hk => by
      rcases hk with hk | hk
      ·exact hk.1
      ·have:=HL9.out.1; omega) (by have:=HB1.out.size; have:=HB10.out.size; omega)⟩
    ·have HS:=Lib.hid (smY_step HO.out (by omega) HL9.out.1 HL9.out.2.1 HLr.out (z:=false) (decide_eq_false h3))
     go_wp2_with (first | go_big_skip | fail)
     refine (HS.out).mono ?_
     rintro e w13 ⟨rfl,ht,ho⟩
     have HT13:=Lib.hid (HT.out.trans ht)
     have HO13:=Lib.hid ho
     clear ht ho HS
     go_wp2
     go_roundw
     case rel => exact ⟨k + 1,by omega,by go_num,HO13,HT13⟩
     case measure => simp [intOf]; omega
  ·have HS:=Lib.hid (smX_step HO.out (by omega) HL9.out.1 HL9.out.2.1 HLr.out (z:=false) (decide_eq_false h8))
   go_wp2_with (first | go_big_skip | fail)
   refine (HS.out).mono ?_
   rintro e w11 ⟨rfl,ht,ho⟩
   have HT11:=Lib.hid (HT.out.trans ht)
   have HO11:=Lib.hid ho
   clear ht ho HS
   go_wp2
   go_roundw
   case rel => exact ⟨k + 1,by omega,by go_num,HO11,HT11⟩
   case measure => simp [intOf]; omega
end
end Go.Proofs.Ythloabdfkakehaa
