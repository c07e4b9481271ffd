/-
  Words and contracts that a statement's proof rests on (FgJ). No statement is proved here.
-/
import Derived.WalkMore
import Derived.Deep.CutRange
import Derived.Deep.DeepCutAuto
import Derived.Test.YthloabdfkakehaaKitQ
import Derived.Test.YthloabdfkakehaaFgM
set_option linter.unusedVariables false
set_option linter.unusedSimpArgs false
namespace Go.Proofs.Ythloabdfkakehaa
open Go.RowKit
section
variable {w:World} {lo b fb rb L:Nat} {F:FcS} {P:Nat} {ls:Nat→List OpN} {lv:Nat→Value} {s:RunS}
theorem rows_in (ab:Nat→Nat) (V:Nat→Value) (p:Nat):rowsS P ls lv ab s V (7 + p)=⟨106,7,lv p,(ls p).length,opc (ls p)⟩:=by
 unfold rowsS rowsF
 rw [if_neg (by omega),if_neg (by omega),if_neg (by omega),if_neg (by omega),if_neg (by omega),if_neg (by omega),if_neg (by omega),Nat.add_sub_cancel_left]
theorem lv_at {p:Nat} (hp:p < P):((List.range P).map lv)[p]?=some (lv p):=by simp [List.getElem?_range hp]
def StepR (F:FcS) (P:Nat) (ls:Nat→List OpN) (s:RunS) (p:Nat) (z:Bool) (s':RunS):Prop :=
 (z=false∧s'=s∧s.nw p=-1∧s.at_ p=(ls p).length) ∨
 (z=true∧∃ s1 i lg,((s1=s∧s.nw p=((i:Nat):Int)) ∨ (∃ o,(ls p)[s.at_ p]?=some o∧OpOk F o∧s1=begR F s p o∧i=s.N∧s.nw p=-1∧s.at_ p < (ls p).length))∧i < s1.N∧s'=goR F s1 p i lg)
theorem cutN {α:Type} {G:Prop} (Q:α→Prop) {T:α} (h1:Q T→G) (h2:Q T):G:=h1 h2
theorem giveQ {A G:Prop} (a:A) (h:A→G):G:=h a
def StepDid (lo b fb rb L:Nat) (F:FcS) (P:Nat) (ls:Nat→List OpN) (lv:Nat→Value) (s:RunS) (p:Nat) (w:World) (e:Ending) (w':World):Prop :=
 ∃ z s',e=.returned (.bool z)∧RunAt w' lo b fb rb L F P ls lv s'∧Tch (RunD lo rb L) w w'∧StepR F P ls s p z s'
set_option maxRecDepth 20000 in
set_option maxHeartbeats 1600000 in
theorem law12_stepA (h:RunAt w lo b fb rb L F P ls lv s) (hP:P≤6) (hl:∀ p,p < P→(ls p).length≤12∧∀ o ∈ ls p,OpOk F o) (ht:s.m.t≤4611686018427387000) {p:Nat} (hp:p < P) (hnw:s.nw p=-1) (hat:s.at_ p=(ls p).length):Calls Try.prog 32 #[.pointer (some ⟨rb,0,none⟩),.int .i64 (p:Nat)] w (StepDid lo b fb rb L F P ls lv s p w):=by
 have HH:=Lib.hid h
 obtain ⟨g,ab,Es,V,hM,hK⟩:=h
 obtain ⟨o1,o2,o3⟩:=hM.ord
 obtain ⟨q0,c0,e0,k0,m0,d0,f0⟩:=(hM.slice (k:=0) (by omega) rfl).2 (by omega)
 obtain ⟨q1,c1,e1,k1,m1,d1,f1⟩:=(hM.slice (k:=1) (by omega) rfl).2 (by omega)
 obtain ⟨q2,c2,e2,k2,m2,d2,f2⟩:=(hM.slice (k:=2) (by omega) rfl).2 (by omega)
 unfold maxLen at m0 m1 m2
 have a0:=(d0 p (by omega)).trans (lv_at hp)
 have a1:=(d1 p (by omega)).trans (kvI_at _ hp)
 have a2:=(d2 p (by omega)).trans (kvI_at _ hp)
 rw [hnw] at a2
 rw [hat] at a1
 obtain ⟨⟨Ap,cp,ep,kp,mp⟩,_⟩:=hM.slice (k:=7 + p) (by omega) (rows_in ab V p)
 rw [ep] at a0
 have r6:w.cell? ⟨rb,6,none⟩=some (V 0):=hM.cell (i:=6) (by omega)
 have r7:w.cell? ⟨rb,7,none⟩=some (V 1):=hM.cell (i:=7) (by omega)
 have r8:w.cell? ⟨rb,8,none⟩=some (V 2):=hM.cell (i:=8) (by omega)
 rw [e0] at r6
 rw [e1] at r7
 rw [e2] at r8
 have HX:Hid (StepR F P ls s p false s):=.inl ⟨rfl,rfl,hnw,hat⟩
 have g0:(0:Int)≤(p:Int):=Int.natCast_nonneg _
 have g1:(p:Int) < (P:Int):=by omega
 generalize (ls p).length=n at *
 have g2:decide ((n:Int)≤(n:Int))=true:=decide_eq_true (Int.le_refl _)
 clear hM hK o1 o2 o3 e0 e1 e2 d0 d1 d2 f0 f1 f2 k0 k1 k2 m0 m1 m2 hnw hat hl ht ep kp mp
 go_enter Try.func32,Try.ntmps32
 go_wp2_with fail
 go_quiet (fail)
 go_wp2
 go_ret
 exact ⟨false,s,rfl,HH.out.below (below_drewN (Below.refl _ _) _),Tch.drewN (Tch.refl _ _) _,HX.out⟩
set_option maxRecDepth 20000 in
set_option maxHeartbeats 6400000 in
theorem law12_stepC (h:RunAt w lo b fb rb L F P ls lv s) (hP:P≤6) (hl:∀ p,p < P→(ls p).length≤12∧∀ o ∈ ls p,OpOk F o) (ht:s.m.t≤4611686018427387000) {p:Nat} (hp:p < P) {i:Nat} (hnw:s.nw p=(i:Int)):Calls Try.prog 32 #[.pointer (some ⟨rb,0,none⟩),.int .i64 (p:Nat)] w (StepDid lo b fb rb L F P ls lv s p w):=by
 obtain ⟨g,ab,Es,V,hM,hK⟩:=h
 have hi:i < s.N:=by
  rcases hK.nw p hp with e | ⟨j,h1,h2,_,_⟩
  ·omega
  ·omega
 obtain ⟨hst,hwho⟩:(s.A i).st ≠ 0∧(s.A i).who=(p:Int):=by
  rcases hK.nw p hp with e | ⟨j,h1,h2,h3,h4⟩
  ·omega
  ·have:j=i:=by omega
   subst this
   exact ⟨h3,h4⟩
 obtain ⟨lg',g9,hK9⟩:=hK.go hp hi hnw (by omega)
 obtain ⟨q2,c2,e2,k2,m2,_,_⟩:=(hM.slice (k:=2) (by omega) rfl).2 (by omega)
 obtain ⟨q3,c3,e3,k3,m3,_,_⟩:=(hM.slice (k:=3) (by omega) rfl).2 (by omega)
 obtain ⟨q6,c6,e6,k6,m6,_,_⟩:=(hM.slice (k:=6) (by omega) rfl).2 (by omega)
 unfold maxLen at m2 m3 m6
 have hr2:rowsS P ls lv ab s V 2=⟨3,1,.slice (some ⟨q2,0,none⟩) P c2,P,kvI s.nw P⟩:=by rw [← e2]; rfl
 have hr3:rowsS P ls lv ab s V 3=⟨42,1,.slice (some ⟨q3,0,none⟩) s.N c3,s.N,ptI ab s.N⟩:=by rw [← e3]; rfl
 have hr6:rowsS P ls lv ab s V 6=⟨3,1,.slice (some ⟨q6,0,none⟩) s.N c6,s.N,kvI s.tt s.N⟩:=by rw [← e6]; rfl
 have hNb:s.N≤100000:=by
  have h9:=sumN_le (f:=s.at_) (c:=12) P fun q hq => Nat.le_trans (hK.at_ q hq) (hl q hq).1
  rw [← hK.N] at h9
  have:P * 12≤6 * 12:=Nat.mul_le_mul_right _ hP
  omega
 have a2:=((hM.at_ (by omega) hr2).1 p (by omega)).trans (kvI_at _ hp)
 have a3:=((hM.at_ (by omega) hr3).1 i (by omega)).trans (ptI_at _ hi)
 rw [hnw] at a2
 have r0:w.cell? ⟨rb,0,none⟩=some (.pointer (some ⟨b,0,none⟩)):=hM.cell (i:=0) (by omega)
 have r8:w.cell? ⟨rb,8,none⟩=some (V 2):=hM.cell (i:=8) (by omega)
 have r9:w.cell? ⟨rb,9,none⟩=some (V 3):=hM.cell (i:=9) (by omega)
 rw [e2] at r8
 rw [e3] at r9
 have HTM:=Lib.hid (mem_Time hM.acts.fd.mem)
 have HST:=Lib.hid (acts_Step hM.acts hi hM.lo3.2 (by have:=hM.ord; omega) hM.ord.2.2 ⟨hK.run.t0,by omega⟩ hst)
 have HGO:=Lib.hid fun w2 g' (ht:Tch (FdD lo (Es i)) w w2) (ha:ActsAt w2 lo b fb L F (stepF F s.m (s.A i)).1 s.N (updA s.A i (stepF F s.m (s.A i)).2) ab (updE Es i (growE (Es i) w w2)) g') => (hM.acted hi ht ha).regs hK9.run.inv
 have HTD:=Lib.hid fun w2 (ht:Tch (FdD lo (Es i)) w w2) => show Tch (RunD lo rb L) w w2 from ht.mono fun k _ hk => by
  rcases hk with hk | hk
  ·exact .inl hk
  ·exact .inr (.inr (hM.acts.low hi hk).1)
 have HQL:Hid (L≤q2∧L≤q6):=⟨(hM.at_ (by omega) hr2).2.2.1,(hM.at_ (by omega) hr6).2.2.1⟩
 have g0:(0:Int)≤(p:Int):=Int.natCast_nonneg _
 have g1:(p:Int) < (P:Int):=by omega
 have i0:(0:Int)≤(i:Int):=Int.natCast_nonneg _
 have i1:(i:Int) < (s.N:Int):=by omega
 have i3:decide ((i:Int) < 0)=false:=decide_eq_false (by omega)
 have hva9:(stepF F s.m (s.A i)).2.vain≤F.tr:=step_vain hK.run.inv hi (hK.va i hi)
 have htr9:F.tr≤8:=hM.acts.fd.fits.tr.2
 obtain ⟨t,htt⟩:∃ t,t=s.m.t:=⟨_,rfl⟩
 rw [← htt] at HTM
 have hx1:wrap64 (t + 1)=t + 1:=by rw [htt]; exact IntWalk.wrap64_in _ (by have:=hK.run.t0; omega)
 have hx2:IntKind.i64.wrap (t + 1)=t + 1:=by rw [htt]; exact IntWalk.i64_in _ (by clear hx1; have:=hK.run.t0; omega)
 have ht9:decide (t + 1 > t + 1)=false:=decide_eq_false (by omega)
 have ht8:decide (t + 1 < t + 1)=false:=decide_eq_false (by omega)
 obtain ⟨va,hvae⟩:∃ va,va=(stepF F s.m (s.A i)).2.vain:=⟨_,rfl⟩
 have hv8:decide ((va:Int) > (F.tr:Int))=false:=decide_eq_false (by rw [hvae]; omega)
 have hv7:decide ((F.tr:Int) < (va:Int))=false:=decide_eq_false (by rw [hvae]; omega)
 have hv6:decide (F.tr < va)=false:=decide_eq_false (by rw [hvae]; omega)
 have HI:=Lib.hid hi
 have HNW:=Lib.hid hnw
 have HP:=Lib.hid hp
 have HE:=Lib.hid (And.intro e2 (And.intro e3 e6))
 have HR2:=Lib.hid hr2
 have HR3:=Lib.hid hr3
 have HR6:=Lib.hid hr6
 have HVA:=Lib.hid hvae
 have HTT:=Lib.hid htt
 have HK9:=Lib.hid hK9
 clear e2 e3 e6 hr2 hr3 hr6 hvae htt hK9 hst hwho hva9 htr9 hl ht hM hK hi hnw hp hP
 go_enter Try.func32,Try.ntmps32
 go_wp2_with fail
 refine (HTM.out).mono ?_
 rintro e w9 ⟨rfl,rfl⟩
 go_wp2_with fail
 refine (HST.out).mono ?_
 rintro e w2 ⟨rfl,htc,d5,hsame,g',heff,hacts⟩
 have HMw2:=Lib.hid (HGO.out w2 g' htc hacts)
 have HTC:=Lib.hid (HTD.out w2 htc)
 have HD5:=Lib.hid (d5.trans (by rw [← HTT.out]))
 clear htc d5 hsame heff hacts HST HTM HGO HTD r0 r8 r9 a2 a3
 by_cases h0:(stepF F s.m (s.A i)).2.st=0
 ·have HZ0:=Lib.hid h0
  rw [decide_eq_true h0]
  clear h0
  have r0:w2.cell? ⟨rb,0,none⟩=some (.pointer (some ⟨b,0,none⟩)):=HMw2.out.cell (i:=0) (by omega)
  have r5:w2.cell? ⟨rb,5,none⟩=some (.int .i64 (F.tr:Nat)):=HMw2.out.cell (i:=5) (by omega)
  have r8:w2.cell? ⟨rb,8,none⟩=some (V 2):=HMw2.out.cell (i:=8) (by omega)
  have r9:w2.cell? ⟨rb,9,none⟩=some (V 3):=HMw2.out.cell (i:=9) (by omega)
  have r12:w2.cell? ⟨rb,12,none⟩=some (V 6):=HMw2.out.cell (i:=12) (by omega)
  rw [HE.out.1] at r8
  rw [HE.out.2.1] at r9
  rw [HE.out.2.2] at r12
  have a3:=((HMw2.out.at_ (by omega) HR3.out).1 i (by have:=HI.out; omega)).trans (ptI_at _ HI.out)
  go_wp2_with fail
  refine wp_region_held_drew (S:=fun w' => w'.cell? ⟨rb,0,none⟩=some (.pointer (some ⟨b,0,none⟩))∧w'.cell? ⟨rb,5,none⟩=some (.int .i64 (F.tr:Nat))∧w'.cell? ⟨rb,9,none⟩=some (.slice (some ⟨q3,0,none⟩) s.N c3)∧w'.cell? ⟨q3,i,none⟩=some (.pointer (some ⟨ab i,0,none⟩))) (by kernel_rfl) ?_ (fun hHeld => ?_)
  ·exact ⟨r0,r5,r9,a3⟩
  obtain ⟨w3,hw9⟩:∃ w',w'=w2.drew:=⟨_,rfl⟩
  have hb:Below w2.heap.size w2 w3:=by rw [hw9]; exact (Below.refl _ _).drew
  rw [← hw9] at hHeld ⊢
  clear hw9
  have HMw3:=Lib.hid (HMw2.out.below hb)
  have HTC:=Lib.hid (HTC.out.trans (Tch.of_below hb))
  have HTM3:=Lib.hid (mem_Time HMw3.out.acts.fd.mem)
  have HOV3:=Lib.hid (acts_Over HMw3.out.acts HI.out (z:=true) (by rw [updA_same]; exact decide_eq_true HZ0.out))
  have HTR3:=Lib.hid (acts_Tries HMw3.out.acts HI.out)
  rw [updA_same,← HVA.out] at HTR3
  rw [HD5.out] at HTM3
  clear hb r0 r5 r8 r9 r12 a3
  refine tkR 0 rfl ?_
  refine tkR 1 rfl ?_
  refine tkR 2 rfl ?_
  refine tkR 3 rfl ?_
  refine tkR 5 rfl ?_
  refine tkR 6 rfl ?_
  refine clR 4 rfl fun K hK => ?_
  go_simp
  refine (HTM3.out).mono ?_
  rintro e w9 ⟨rfl,rfl⟩
  refine hK.out _ _ ?_ (fun hHeld => ?_)
  ·(try dsimp only)
   exact hHeld
  clear hK K
  refine tkR 7 rfl ?_
  refine tkR 8 rfl ?_
  refine tkR 9 rfl ?_
  refine tkR 10 rfl ?_
  refine tkR 11 rfl ?_
  refine tkR 12 rfl ?_
  refine tkR 13 rfl ?_
  refine tkR 14 rfl ?_
  refine tkR 15 rfl ?_
  refine tkR 16 rfl ?_
  refine clR 17 rfl fun K hK => ?_
  go_simp
  refine (HOV3.out).mono ?_
  rintro e w9 ⟨rfl,rfl⟩
  refine hK.out _ _ ?_ (fun hHeld => ?_)
  ·(try dsimp only)
   exact hHeld
  clear hK K
  refine tkR 18 rfl ?_
  refine tkR 19 rfl ?_
  refine tkR 20 rfl ?_
  refine tkR 21 rfl ?_
  refine tkR 22 rfl ?_
  refine tkR 23 rfl ?_
  refine tkR 24 rfl ?_
  refine tkR 25 rfl ?_
  refine tkR 26 rfl ?_
  refine tkR 27 rfl ?_
  refine tkR 29 rfl ?_
  refine tkR 30 rfl ?_
  refine tkR 31 rfl ?_
  refine tkR 32 rfl ?_
  refine clR 28 rfl fun K hK => ?_
  go_simp
  refine (HTR3.out).mono ?_
  rintro e w9 ⟨rfl,rfl⟩
  refine hK.out _ _ ?_ (fun hHeld => ?_)
  ·(try dsimp only)
   exact hHeld
  clear hK K
  refine tkR 33 rfl ?_
  refine tkR 34 rfl ?_
  refine wpAnyH_done (by kernel_rfl) ?_ _
  clear hHeld
  have r0:w3.cell? ⟨rb,0,none⟩=some (.pointer (some ⟨b,0,none⟩)):=HMw3.out.cell (i:=0) (by omega)
  have r5:w3.cell? ⟨rb,5,none⟩=some (.int .i64 (F.tr:Nat)):=HMw3.out.cell (i:=5) (by omega)
  have r8:w3.cell? ⟨rb,8,none⟩=some (V 2):=HMw3.out.cell (i:=8) (by omega)
  have r9:w3.cell? ⟨rb,9,none⟩=some (V 3):=HMw3.out.cell (i:=9) (by omega)
  have r12:w3.cell? ⟨rb,12,none⟩=some (V 6):=HMw3.out.cell (i:=12) (by omega)
  rw [HE.out.1] at r8
  rw [HE.out.2.1] at r9
  rw [HE.out.2.2] at r12
  have a3:=((HMw3.out.at_ (by omega) HR3.out).1 i (by have:=HI.out; omega)).trans (ptI_at _ HI.out)
  go_wp2_with fail
  refine wp_region_held_drew (S:=fun w' => w'.cell? ⟨rb,0,none⟩=some (.pointer (some ⟨b,0,none⟩))∧w'.cell? ⟨rb,12,none⟩=some (.slice (some ⟨q6,0,none⟩) s.N c6)) (by kernel_rfl) ?_ (fun hHeld => ?_)
  ·exact ⟨r0,r12⟩
  obtain ⟨w4,hw9⟩:∃ w',w'=w3.drew:=⟨_,rfl⟩
  have hb:Below w3.heap.size w3 w4:=by rw [hw9]; exact (Below.refl _ _).drew
  rw [← hw9] at hHeld ⊢
  clear hw9
  have HMw4:=Lib.hid (HMw3.out.below hb)
  have HTC:=Lib.hid (HTC.out.trans (Tch.of_below hb))
  have HTM4:=Lib.hid (mem_Time HMw4.out.acts.fd.mem)
  rw [HD5.out] at HTM4
  clear hb r0 r5 r8 r9 r12 a3
  have a6:=((HMw4.out.at_ (by omega) HR6.out).1 i (by have:=HI.out; omega)).trans (kvI_at _ HI.out)
  have f6:=(HMw4.out.at_ (by omega) HR6.out).2.1
  have HMw5:=Lib.hid (HMw4.out.set (by omega) HR6.out i (.int .i64 (t + 1)))
  refine tkR 0 rfl ?_
  refine tkR 1 rfl ?_
  refine tkR 2 rfl ?_
  refine tkR 3 rfl ?_
  refine tkR 4 rfl ?_
  refine tkR 5 rfl ?_
  refine tkR 6 rfl ?_
  refine tkR 7 rfl ?_
  refine tkR 8 rfl ?_
  refine clR 9 rfl fun K hK => ?_
  go_simp
  refine (HTM4.out).mono ?_
  rintro e w9 ⟨rfl,rfl⟩
  refine hK.out _ _ ?_ (fun hHeld => ?_)
  ·(try dsimp only)
   exact hHeld
  clear hK K
  refine tkR 10 rfl ?_
  refine clR 11 rfl fun K hK => ?_
  go_simp
  refine hK.out _ _ ?_ (fun hHeld => ?_)
  ·(try dsimp only)
   exact ⟨HMw5.out.cell (i:=0) (by omega),by rw [← HE.out.2.2]; exact HMw5.out.cell (i:=12) (by omega)⟩
  clear hK K
  (try simp only [Act.put,sqA,sqB,sqC])
  refine wpAnyH_done (by kernel_rfl) ?_ _
  clear hHeld a6 f6
  obtain ⟨w5,hw5⟩:∃ w',w'=w4.setCell ⟨q6,i,none⟩ (.int .i64 (t + 1)):=⟨_,rfl⟩
  rw [← hw5] at HMw5 ⊢
  have HTC5:Hid (Tch (RunD lo rb L) w w5):=by rw [hw5]; exact HTC.out.setCell (.inr (.inr HQL.out.2)) _
  clear hw5
  have hr9:updV (rowsS P ls lv ab s V) 6 ⟨3,1,.slice (some ⟨q6,0,none⟩) s.N c6,s.N,(kvI s.tt s.N).set i (.int .i64 (t + 1))⟩ 2=⟨3,1,.slice (some ⟨q2,0,none⟩) P c2,P,kvI s.nw P⟩:=HR2.out
  have r8:w5.cell? ⟨rb,8,none⟩=some (V 2):=HMw5.out.cell (i:=8) (by omega)
  rw [HE.out.1] at r8
  have a2:=((HMw5.out.at_ (by omega) hr9).1 p (by have:=HP.out; omega)).trans (kvI_at _ HP.out)
  have f2:=(HMw5.out.at_ (by omega) hr9).2.1
  have HMw6:=Lib.hid (HMw5.out.set (by omega) hr9 p (.int .i64 (-1)))
  clear hr9
  go_wp2
  go_ret
  refine ⟨true,goR F s p i lg',rfl,⟨g9,ab,_,V,HMw6.out.congr (fun k hk => ?_) (fun _ _ => rfl),HK9.out⟩,(HTC5.out.setCell (.inr (.inr HQL.out.1)) _),.inr ⟨rfl,s,i,lg',.inl ⟨rfl,HNW.out⟩,HI.out,rfl⟩⟩
  rw [over_rows F p i lg' HZ0.out k hk,HE.out.1,HE.out.2.2,← HTT.out]
 ·have HZ0:=Lib.hid h0
  rw [decide_eq_false h0]
  clear h0
  have r0:w2.cell? ⟨rb,0,none⟩=some (.pointer (some ⟨b,0,none⟩)):=HMw2.out.cell (i:=0) (by omega)
  have r5:w2.cell? ⟨rb,5,none⟩=some (.int .i64 (F.tr:Nat)):=HMw2.out.cell (i:=5) (by omega)
  have r8:w2.cell? ⟨rb,8,none⟩=some (V 2):=HMw2.out.cell (i:=8) (by omega)
  have r9:w2.cell? ⟨rb,9,none⟩=some (V 3):=HMw2.out.cell (i:=9) (by omega)
  have r12:w2.cell? ⟨rb,12,none⟩=some (V 6):=HMw2.out.cell (i:=12) (by omega)
  rw [HE.out.1] at r8
  rw [HE.out.2.1] at r9
  rw [HE.out.2.2] at r12
  have a3:=((HMw2.out.at_ (by omega) HR3.out).1 i (by have:=HI.out; omega)).trans (ptI_at _ HI.out)
  go_wp2_with fail
  refine wp_region_held_drew (S:=fun w' => w'.cell? ⟨rb,0,none⟩=some (.pointer (some ⟨b,0,none⟩))∧w'.cell? ⟨rb,5,none⟩=some (.int .i64 (F.tr:Nat))∧w'.cell? ⟨rb,9,none⟩=some (.slice (some ⟨q3,0,none⟩) s.N c3)∧w'.cell? ⟨q3,i,none⟩=some (.pointer (some ⟨ab i,0,none⟩))) (by kernel_rfl) ?_ (fun hHeld => ?_)
  ·exact ⟨r0,r5,r9,a3⟩
  obtain ⟨w3,hw9⟩:∃ w',w'=w2.drew:=⟨_,rfl⟩
  have hb:Below w2.heap.size w2 w3:=by rw [hw9]; exact (Below.refl _ _).drew
  rw [← hw9] at hHeld ⊢
  clear hw9
  have HMw3:=Lib.hid (HMw2.out.below hb)
  have HTC:=Lib.hid (HTC.out.trans (Tch.of_below hb))
  have HTM3:=Lib.hid (mem_Time HMw3.out.acts.fd.mem)
  have HOV3:=Lib.hid (acts_Over HMw3.out.acts HI.out (z:=false) (by rw [updA_same]; exact decide_eq_false HZ0.out))
  have HTR3:=Lib.hid (acts_Tries HMw3.out.acts HI.out)
  rw [updA_same,← HVA.out] at HTR3
  rw [HD5.out] at HTM3
  clear hb r0 r5 r8 r9 r12 a3
  refine tkR 0 rfl ?_
  refine tkR 1 rfl ?_
  refine tkR 2 rfl ?_
  refine tkR 3 rfl ?_
  refine tkR 5 rfl ?_
  refine tkR 6 rfl ?_
  refine clR 4 rfl fun K hK => ?_
  go_simp
  refine (HTM3.out).mono ?_
  rintro e w9 ⟨rfl,rfl⟩
  refine hK.out _ _ ?_ (fun hHeld => ?_)
  ·(try dsimp only)
   exact hHeld
  clear hK K
  refine tkR 7 rfl ?_
  refine tkR 8 rfl ?_
  refine tkR 9 rfl ?_
  refine tkR 10 rfl ?_
  refine tkR 11 rfl ?_
  refine tkR 12 rfl ?_
  refine tkR 13 rfl ?_
  refine tkR 14 rfl ?_
  refine tkR 15 rfl ?_
  refine tkR 16 rfl ?_
  refine clR 17 rfl fun K hK => ?_
  go_simp
  refine (HOV3.out).mono ?_
  rintro e w9 ⟨rfl,rfl⟩
  refine hK.out _ _ ?_ (fun hHeld => ?_)
  ·(try dsimp only)
   exact hHeld
  clear hK K
  refine tkR 18 rfl ?_
  refine tkR 19 rfl ?_
  refine tkR 20 rfl ?_
  refine tkR 21 rfl ?_
  refine tkR 22 rfl ?_
  refine tkR 23 rfl ?_
  refine tkR 24 rfl ?_
  refine tkR 25 rfl ?_
  refine tkR 26 rfl ?_
  refine tkR 27 rfl ?_
  refine tkR 29 rfl ?_
  refine tkR 30 rfl ?_
  refine tkR 31 rfl ?_
  refine tkR 32 rfl ?_
  refine clR 28 rfl fun K hK => ?_
  go_simp
  refine (HTR3.out).mono ?_
  rintro e w9 ⟨rfl,rfl⟩
  refine hK.out _ _ ?_ (fun hHeld => ?_)
  ·(try dsimp only)
   exact hHeld
  clear hK K
  refine tkR 33 rfl ?_
  refine tkR 34 rfl ?_
  refine wpAnyH_done (by kernel_rfl) ?_ _
  clear hHeld
  go_wp2
  go_ret
  exact ⟨true,goR F s p i lg',rfl,⟨g9,ab,_,V,HMw3.out.congr (fun k hk => on_rows F p i lg' HZ0.out k) (fun _ _ => rfl),HK9.out⟩,(HTC.out),.inr ⟨rfl,s,i,lg',.inl ⟨rfl,HNW.out⟩,HI.out,rfl⟩⟩
set_option maxRecDepth 20000 in
set_option maxHeartbeats 12800000 in
theorem law12_stepB (h:RunAt w lo b fb rb L F P ls lv s) (hP:P≤6) (hl:∀ p,p < P→(ls p).length≤12∧∀ o ∈ ls p,OpOk F o) (ht:s.m.t≤4611686018427387000) {p:Nat} (hp:p < P) (hnw:s.nw p=-1) (hat:s.at_ p < (ls p).length):Calls Try.prog 32 #[.pointer (some ⟨rb,0,none⟩),.int .i64 (p:Nat)] w (StepDid lo b fb rb L F P ls lv s p w):=by
 obtain ⟨g,ab,Es,V,hM,hK⟩:=h
 obtain ⟨o,ho⟩:∃ o,(ls p)[s.at_ p]?=some o:=⟨_,List.getElem?_eq_getElem hat⟩
 have hok:OpOk F o:=(hl p hp).2 o (List.mem_of_getElem? ho)
 have hfit:=hM.acts.fd.fits
 have hK1:=hK.beg hfit hp hnw hat hok
 have hPos:0 < P:=by omega
 obtain ⟨q0,c0,e0,k0,m0,_,_⟩:=(hM.slice (k:=0) (by omega) rfl).2 hPos
 obtain ⟨q1,c1,e1,k1,m1,_,_⟩:=(hM.slice (k:=1) (by omega) rfl).2 hPos
 obtain ⟨q2,c2,e2,k2,m2,_,_⟩:=(hM.slice (k:=2) (by omega) rfl).2 hPos
 obtain ⟨⟨A3,c3,e3,k3,m3⟩,_⟩:=hM.slice (k:=3) (by omega) rfl
 obtain ⟨⟨A4,c4,e4,k4,m4⟩,_⟩:=hM.slice (k:=4) (by omega) rfl
 obtain ⟨⟨A5,c5,e5,k5,m5⟩,_⟩:=hM.slice (k:=5) (by omega) rfl
 obtain ⟨⟨A6,c6,e6,k6,m6⟩,_⟩:=hM.slice (k:=6) (by omega) rfl
 obtain ⟨qp,cp,ep,kp,mp,_,_⟩:=(hM.slice (k:=7 + p) (by omega) (rows_in ab V p)).2 (by omega)
 unfold maxLen at m0 m1 m2 m3 m4 m5 m6 mp
 have hr0:rowsS P ls lv ab s V 0=⟨66,1,.slice (some ⟨q0,0,none⟩) P c0,P,(List.range P).map lv⟩:=by rw [← e0]; rfl
 have hr1:rowsS P ls lv ab s V 1=⟨3,1,.slice (some ⟨q1,0,none⟩) P c1,P,kvI (fun p => (s.at_ p:Int)) P⟩:=by rw [← e1]; rfl
 have hr2:rowsS P ls lv ab s V 2=⟨3,1,.slice (some ⟨q2,0,none⟩) P c2,P,kvI s.nw P⟩:=by rw [← e2]; rfl
 have hr3:rowsS P ls lv ab s V 3=⟨42,1,.slice A3 s.N c3,s.N,ptI ab s.N⟩:=by rw [← e3]; rfl
 have hr4:rowsS P ls lv ab s V 4=⟨106,7,.slice A4 s.N c4,s.N,opc ((List.range s.N).map s.op)⟩:=by rw [← e4]; rfl
 have hr5:rowsS P ls lv ab s V 5=⟨3,1,.slice A5 s.N c5,s.N,kvI s.fr s.N⟩:=by rw [← e5]; rfl
 have hr6:rowsS P ls lv ab s V 6=⟨3,1,.slice A6 s.N c6,s.N,kvI s.tt s.N⟩:=by rw [← e6]; rfl
 have hrp:rowsS P ls lv ab s V (7 + p)=⟨106,7,.slice (some ⟨qp,0,none⟩) (ls p).length cp,(ls p).length,opc (ls p)⟩:=by rw [← ep]; exact rows_in ab V p
 have hNb:s.N≤100000:=by
  have h9:=sumN_le (f:=s.at_) (c:=12) P fun q hq => Nat.le_trans (hK.at_ q hq) (hl q hq).1
  rw [← hK.N] at h9
  have:P * 12≤6 * 12:=Nat.mul_le_mul_right _ hP
  omega
 have hl9:(ls p).length≤12:=(hl p hp).1
 obtain ⟨n,hn⟩:∃ n,n=(ls p).length:=⟨_,rfl⟩
 obtain ⟨a,ha⟩:∃ a,a=s.at_ p:=⟨_,rfl⟩
 have hopc:∀ f,f < 7→(opc (ls p))[a * 7 + f]?=(opC o)[f]?:=fun f hf => by
  rw [opc_at _ _ _ hf,ha,ho]
  rfl
 have HCW:=Lib.hid fun W (hM9:RunM W lo b fb rb L F s.m s.N s.A ab Es g (7 + P) (rowsS P ls lv ab s V) V) => show (W.cell? ⟨q0,p,none⟩=some (.slice (some ⟨qp,0,none⟩) n cp)∧W.cell? ⟨q1,p,none⟩=some (.int .i64 (a:Nat))∧W.cell? ⟨q2,p,none⟩=some (.int .i64 (-1))∧W.cell? ⟨rb,6,none⟩=some (.slice (some ⟨q0,0,none⟩) P c0)∧W.cell? ⟨rb,7,none⟩=some (.slice (some ⟨q1,0,none⟩) P c1)∧W.cell? ⟨rb,8,none⟩=some (.slice (some ⟨q2,0,none⟩) P c2))∧W.cell? ⟨qp,a * 7,none⟩=some (.int .i64 (o.K:Nat))∧W.cell? ⟨qp,a * 7 + 1,none⟩=some (.int .i64 o.v)∧W.cell? ⟨qp,a * 7 + 2,none⟩=some (.int .u64 (o.mc:Nat))∧W.cell? ⟨qp,a * 7 + 3,none⟩=some (.int .i64 o.port)∧W.cell? ⟨qp,a * 7 + 4,none⟩=some (.int .i64 o.vid)∧W.cell? ⟨qp,a * 7 + 5,none⟩=some (.int .u32 (o.now:Nat))∧W.cell? ⟨qp,a * 7 + 6,none⟩=some (.int .u32 (o.old:Nat)) from
  ⟨⟨((hM9.at_ (by omega) hr0).1 p (by omega)).trans (by rw [lv_at hp,ep,hn]),((hM9.at_ (by omega) hr1).1 p (by omega)).trans (by rw [kvI_at _ hp,ha]),((hM9.at_ (by omega) hr2).1 p (by omega)).trans (by rw [kvI_at _ hp,hnw]),by rw [← e0]; exact hM9.cell (i:=6) (by omega),by rw [← e1]; exact hM9.cell (i:=7) (by omega),by rw [← e2]; exact hM9.cell (i:=8) (by omega)⟩,
  ((hM9.at_ (by omega) hrp).1 (a * 7 + 0) (by omega)).trans (hopc 0 (by omega)),((hM9.at_ (by omega) hrp).1 (a * 7 + 1) (by omega)).trans (hopc 1 (by omega)),((hM9.at_ (by omega) hrp).1 (a * 7 + 2) (by omega)).trans (hopc 2 (by omega)),((hM9.at_ (by omega) hrp).1 (a * 7 + 3) (by omega)).trans (hopc 3 (by omega)),((hM9.at_ (by omega) hrp).1 (a * 7 + 4) (by omega)).trans (hopc 4 (by omega)),((hM9.at_ (by omega) hrp).1 (a * 7 + 5) (by omega)).trans (hopc 5 (by omega)),((hM9.at_ (by omega) hrp).1 (a * 7 + 6) (by omega)).trans (hopc 6 (by omega))⟩
 have g0:(0:Int)≤(p:Int):=Int.natCast_nonneg _
 have g1:(p:Int) < (P:Int):=by omega
 have b0:(0:Int)≤(a:Int):=Int.natCast_nonneg _
 have b1:(a:Int) < (n:Int):=by omega
 have b2:decide (n≤a)=false:=decide_eq_false (by omega)
 have b3:decide ((n:Int)≤(a:Int))=false:=decide_eq_false (by omega)
 have y1:wrap64 ((a:Int) + 1)=((a + 1:Nat):Int):=by rw [show (a:Int) + 1=((a + 1:Nat):Int) by omega]; exact IntWalk.wrap64_in _ (by omega)
 have y2:IntKind.i64.wrap ((a:Int) + 1)=((a + 1:Nat):Int):=by rw [show (a:Int) + 1=((a + 1:Nat):Int) by omega]; exact IntWalk.i64_in _ (by clear y1; omega)
 obtain ⟨⟨x0,x1,x2,x6,x7,x8⟩,_⟩:=HCW.out w hM
 have HM:=Lib.hid hM
 have HK:=Lib.hid hK
 have HK1:=Lib.hid hK1
 have HOK:=Lib.hid hok
 have HO:=Lib.hid ho
 have HR:=Lib.hid (And.intro hr1 (And.intro hr2 (And.intro hr3 (And.intro hr4 (And.intro hr5 hr6)))))
 have HE:=Lib.hid (And.intro e1 (And.intro e2 (And.intro e3 (And.intro e4 (And.intro e5 e6)))))
 have HA:=Lib.hid ha
 have HN:=Lib.hid hn
 have HNB:=Lib.hid hNb
 have HP:=Lib.hid (And.intro hp hP)
 have HNW:=Lib.hid hnw
 have HAT:=Lib.hid hat
 have HL:=Lib.hid hl
 have HT:=Lib.hid ht
 have HF:=Lib.hid hfit
 clear hM hK hK1 hok ho hr0 hr1 hr2 hr3 hr4 hr5 hr6 hrp e0 e1 e2 e3 e4 e5 e6 ep ha hn hNb hp hP hnw hat hl ht hfit hl9 hopc hPos
 go_enter Try.func32,Try.ntmps32
 go_wp2_with fail
 go_quiet (fail)
 go_wp2_with fail
 obtain ⟨w1,hw1⟩:∃ w',w'=w.drewN nq:=⟨_,rfl⟩
 have hb:Below w.heap.size w w1:=by rw [hw1]; exact below_drewN (Below.refl _ _) nq
 rw [← hw1]
 have HM1:=Lib.hid (HM.out.below hb)
 have HTC:=Lib.hid (Tch.of_below (D:=RunD lo rb L) hb)
 clear hb hw1 x0 x1 x2 x6 x7 x8
 refine wp_region_held_drew (S:=fun w' => (w'.cell? ⟨q0,p,none⟩=some (.slice (some ⟨qp,0,none⟩) n cp)∧w'.cell? ⟨q1,p,none⟩=some (.int .i64 (a:Nat))∧w'.cell? ⟨rb,6,none⟩=some (.slice (some ⟨q0,0,none⟩) P c0)∧w'.cell? ⟨rb,7,none⟩=some (.slice (some ⟨q1,0,none⟩) P c1))∧w'.cell? ⟨qp,a * 7,none⟩=some (.int .i64 (o.K:Nat))∧w'.cell? ⟨qp,a * 7 + 1,none⟩=some (.int .i64 o.v)∧w'.cell? ⟨qp,a * 7 + 2,none⟩=some (.int .u64 (o.mc:Nat))∧w'.cell? ⟨qp,a * 7 + 3,none⟩=some (.int .i64 o.port)∧w'.cell? ⟨qp,a * 7 + 4,none⟩=some (.int .i64 o.vid)∧w'.cell? ⟨qp,a * 7 + 5,none⟩=some (.int .u32 (o.now:Nat))∧w'.cell? ⟨qp,a * 7 + 6,none⟩=some (.int .u32 (o.old:Nat))) (by kernel_rfl) ?_ (fun hHeld => ?_)
 ·obtain ⟨⟨z0,z1,z2,z3,z4,z5⟩,z6⟩:=HCW.out _ (HM1.out.below ((Below.refl _ _).drew))
  exact ⟨⟨z0,z1,z3,z4⟩,z6⟩
 obtain ⟨w2,hw9⟩:∃ w',w'=w1.drew:=⟨_,rfl⟩
 have hb:Below w1.heap.size w1 w2:=by rw [hw9]; exact (Below.refl _ _).drew
 rw [← hw9] at hHeld ⊢
 clear hw9
 have HM2:=Lib.hid (HM1.out.below hb)
 have HTC:=Lib.hid (HTC.out.trans (Tch.of_below hb))
 clear hb
 refine tkR 0 rfl ?_
 refine tkR 1 rfl ?_
 refine tkR 2 rfl ?_
 refine tkR 3 rfl ?_
 refine tkR 4 rfl ?_
 refine tkR 5 rfl ?_
 refine tkR 6 rfl ?_
 refine tkR 7 rfl ?_
 refine tkR 8 rfl ?_
 refine tkR 9 rfl ?_
 refine tkR 10 rfl ?_
 refine tkR 11 rfl ?_
 refine tkR 12 rfl ?_
 refine tkR 13 rfl ?_
 refine tkR 14 rfl ?_
 refine tkR 15 rfl ?_
 refine clR 16 rfl fun K hK => ?_
 go_simp
 refine hK.out _ _ ?_ (fun hHeld => ?_)
 ·(try dsimp only)
  obtain ⟨⟨z0,z1,z2,z3,z4,z5⟩,z6⟩:=HCW.out _ (HM2.out.below ((Below.refl _ _).alloc (Nat.le_refl _) _))
  exact ⟨⟨z0,z1,z3,z4⟩,z6⟩
 clear hK K
 (try simp only [Act.put,sqA,sqB,sqC])
 refine clR 17 rfl fun K hK => ?_
 go_simp
 refine hK.out _ _ ?_ (fun hHeld => ?_)
 ·(try dsimp only)
  obtain ⟨⟨z0,z1,z2,z3,z4,z5⟩,z6⟩:=HCW.out _ (HM2.out.below ((Below.refl _ _).alloc (Nat.le_refl _) _))
  exact ⟨⟨z0,z1,z3,z4⟩,z6⟩
 clear hK K
 (try simp only [Act.put,sqA,sqB,sqC])
 refine wpAnyH_done (by kernel_rfl) ?_ _
 clear hHeld
 obtain ⟨w3,hw3⟩:∃ w',w'=w2.alloc (.cells #[.int .i64 (o.K:Nat),.int .i64 o.v,.int .u64 (o.mc:Nat),.int .i64 o.port,.int .i64 o.vid,.int .u32 (o.now:Nat),.int .u32 (o.old:Nat)] 106):=⟨_,rfl⟩
 rw [← hw3]
 have hb:Below w2.heap.size w2 w3:=by rw [hw3]; exact (Below.refl _ _).alloc (Nat.le_refl _) _
 have HMw3:=Lib.hid (HM2.out.below hb)
 have HTC:=Lib.hid (HTC.out.trans (Tch.of_below hb))
 obtain ⟨ob,hob⟩:∃ ob,ob=w2.heap.size:=⟨_,rfl⟩
 rw [← hob]
 have HOF:Hid (¬ RowD (7 + P) (rowsS P ls lv ab s V) ob):=fun h => by have:=(HM2.out.rows.lt h).2; omega
 have HOw3:Hid (w3.rowIs ob 106 7 (fun j => (opC o).getD j (.bool false))):=by
  rw [hw3,hob]
  exact World.rowIs_alloc w2 #[.int .i64 (o.K:Nat),.int .i64 o.v,.int .u64 (o.mc:Nat),.int .i64 o.port,.int .i64 o.vid,.int .u32 (o.now:Nat),.int .u32 (o.old:Nat)] 106 (fun j => (opC o).getD j (.bool false)) (fun i hi => by
   match i,hi with
   | 0,_ => rfl
   | 1,_ => rfl
   | 2,_ => rfl
   | 3,_ => rfl
   | 4,_ => rfl
   | 5,_ => rfl
   | 6,_ => rfl
   | _ + 7,hh => exact absurd hh (by simp))
 have HQL:Hid (q1 ≠ ob∧q2 ≠ ob∧L≤q1∧L≤q2):=by
  have h1:=(HM2.out.at_ (k:=1) (by omega) HR.out.1).2.2
  have h2:=(HM2.out.at_ (k:=2) (by omega) HR.out.2.1).2.2
  exact ⟨by omega,by omega,h1.1,h2.1⟩
 clear hb hw3 hob HM1
 obtain ⟨⟨_,x1,_,_,x7,_⟩,_⟩:=HCW.out w3 HMw3.out
 have f1:=(HMw3.out.at_ (k:=1) (by omega) HR.out.1).2.1
 obtain ⟨A1,hA1⟩:∃ A1,A1=a + 1:=⟨_,rfl⟩
 rw [← hA1] at y1 y2
 have HA1:Hid (A1=s.at_ p + 1):=Lib.hid (by rw [hA1,HA.out])
 have HMw4:=Lib.hid (HMw3.out.set (k:=1) (by omega) HR.out.1 p (.int .i64 (A1:Nat)))
 have HBG:=Lib.hid fun W (hM9:RunM W lo b fb rb L F s.m s.N s.A ab Es g (7 + P) (updV (rowsS P ls lv ab s V) 1 ⟨3,1,.slice (some ⟨q1,0,none⟩) P c1,P,(kvI (fun p => (s.at_ p:Int)) P).set p (.int .i64 (A1:Nat))⟩) V) => law12_Begin (L:=L) hM9.acts.fd (who:=(p:Int)) (Int.natCast_nonneg _) HOK.out hM9.ord.2.2
 clear hA1
 go_wp2_with fail
 obtain ⟨w4,hw4⟩:∃ w',w'=w3.setCell ⟨q1,p,none⟩ (.int .i64 (A1:Nat)):=⟨_,rfl⟩
 rw [← hw4] at HMw4 ⊢
 have HOw4:Hid (w4.rowIs ob 106 7 (fun j => (opC o).getD j (.bool false))):=by rw [hw4]; exact HOw3.out.setOther (by show ob ≠ q1; exact fun e => HQL.out.1 e.symm) _
 have HTC:=Lib.hid (show Tch (RunD lo rb L) w w4 from by rw [hw4]; exact HTC.out.setCell (.inr (.inr HQL.out.2.2.1)) _)
 clear hw4 x1 x7 f1 y1 y2
 have u0:w4.cell? ⟨ob,0,none⟩=some (.int .i64 (o.K:Nat)):=HOw4.out.cell (by omega)
 have u1:w4.cell? ⟨ob,1,none⟩=some (.int .i64 o.v):=HOw4.out.cell (by omega)
 have u2:w4.cell? ⟨ob,2,none⟩=some (.int .u64 (o.mc:Nat)):=HOw4.out.cell (by omega)
 have u3:w4.cell? ⟨ob,3,none⟩=some (.int .i64 o.port):=HOw4.out.cell (by omega)
 have u4:w4.cell? ⟨ob,4,none⟩=some (.int .i64 o.vid):=HOw4.out.cell (by omega)
 have u5:w4.cell? ⟨ob,5,none⟩=some (.int .u32 (o.now:Nat)):=HOw4.out.cell (by omega)
 have u6:w4.cell? ⟨ob,6,none⟩=some (.int .u32 (o.old:Nat)):=HOw4.out.cell (by omega)
 have x9:w4.cell? ⟨rb,1,none⟩=some (.pointer (some ⟨fb,0,none⟩)):=HMw4.out.cell (i:=1) (by omega)
 refine wp_region_held_drew (S:=fun w' => w'.cell? ⟨rb,1,none⟩=some (.pointer (some ⟨fb,0,none⟩))∧w'.cell? ⟨ob,0,none⟩=some (.int .i64 (o.K:Nat))∧w'.cell? ⟨ob,1,none⟩=some (.int .i64 o.v)∧w'.cell? ⟨ob,2,none⟩=some (.int .u64 (o.mc:Nat))∧w'.cell? ⟨ob,3,none⟩=some (.int .i64 o.port)∧w'.cell? ⟨ob,4,none⟩=some (.int .i64 o.vid)∧w'.cell? ⟨ob,5,none⟩=some (.int .u32 (o.now:Nat))∧w'.cell? ⟨ob,6,none⟩=some (.int .u32 (o.old:Nat))) (by kernel_rfl) ?_ (fun hHeld => ?_)
 ·exact ⟨x9,u0,u1,u2,u3,u4,u5,u6⟩
 obtain ⟨w5,hw9⟩:∃ w',w'=w4.drew:=⟨_,rfl⟩
 have hb:Below w4.heap.size w4 w5:=by rw [hw9]; exact (Below.refl _ _).drew
 rw [← hw9] at hHeld ⊢
 clear hw9
 have HMw5:=Lib.hid (HMw4.out.below hb)
 have HOw5:=Lib.hid (HOw4.out.of_block (hb.block _ HOw4.out.lt))
 have HTC:=Lib.hid (HTC.out.trans (Tch.of_below hb))
 clear hb u0 u1 u2 u3 u4 u5 u6 x9
 refine tkR 0 rfl ?_
 refine tkR 1 rfl ?_
 refine tkR 2 rfl ?_
 refine tkR 3 rfl ?_
 refine tkR 4 rfl ?_
 refine tkR 5 rfl ?_
 refine clR 6 rfl fun K hK => ?_
 go_simp
 refine (HBG.out _ HMw5.out).mono ?_
 rintro e w6 ⟨ab9,rfl,hz,hb,hact⟩
 have HMw6:=Lib.hid (HMw5.out.began hb hact HK1.out.run.inv (begA_rng _ _ _))
 have HOw6:=Lib.hid (HOw5.out.of_block (hb.block _ HOw5.out.lt))
 have HTC:=Lib.hid (HTC.out.trans (Tch.of_below hb))
 clear hb hz hact
 refine hK.out _ _ ?_ (fun hHeld => ?_)
 ·(try dsimp only)
  exact ⟨HMw6.out.cell (i:=1) (by omega),HOw6.out.cell (i:=0) (by omega),HOw6.out.cell (i:=1) (by omega),HOw6.out.cell (i:=2) (by omega),HOw6.out.cell (i:=3) (by omega),HOw6.out.cell (i:=4) (by omega),HOw6.out.cell (i:=5) (by omega),HOw6.out.cell (i:=6) (by omega)⟩
 clear hK K
 refine tkR 7 rfl ?_
 refine wpAnyH_done (by kernel_rfl) ?_ _
 clear hHeld HBG
 obtain ⟨m1,m2,m3,m4,m5,m6,m7,m8,m9,m10⟩:=beg_mark F (p:Int) o
 have HOV:=Lib.hid (acts_Over HMw6.out.acts (i:=s.N) (by omega) (z:=false) (by rw [updA_same]; exact decide_eq_false (by rcases m10 with e | ⟨_,e⟩ <;> rw [e] <;> decide)))
 have HMK:=Lib.hid (acts_Mark HMw6.out.acts (i:=s.N) (by omega))
 have HAN:=Lib.hid (acts_Answer HMw6.out.acts (i:=s.N) (by omega))
 rw [updA_same,m1] at HMK
 rw [updA_same,m7,show (if (begA F (p:Int) o).st=0 then (0:Int) else 0)=0 by split <;> rfl] at HAN
 have eab:updN ab s.N ab9 s.N=ab9:=if_pos rfl
 rw [eab] at HOV HMK HAN
 clear m1 m2 m3 m4 m5 m6 m7 m8 m9 m10 eab
 go_wp2_with (first | go_big_skip | fail)
 refine (HOV.out).mono ?_
 rintro e w9 ⟨rfl,rfl⟩
 go_wp2_with (first | go_big_skip | fail)
 refine (HMK.out).mono ?_
 rintro e w9 ⟨rfl,rfl⟩
 go_wp2_with (first | go_big_skip | fail)
 refine (HAN.out).mono ?_
 rintro e w9 ⟨rfl,rfl⟩
 go_wp2_with fail
 clear HOV HMK HAN
 have x8:w6.cell? ⟨rb,8,none⟩=some (V 2):=HMw6.out.cell (i:=8) (by omega)
 have x9:w6.cell? ⟨rb,9,none⟩=some (V 3):=HMw6.out.cell (i:=9) (by omega)
 rw [HE.out.2.1] at x8
 rw [HE.out.2.2.1] at x9
 refine wp_region_held_drew (S:=fun w' => w'.cell? ⟨rb,8,none⟩=some (.slice (some ⟨q2,0,none⟩) P c2)∧w'.cell? ⟨rb,9,none⟩=some (.slice A3 s.N c3)) (by kernel_rfl) ?_ (fun hHeld => ?_)
 ·exact ⟨x8,x9⟩
 obtain ⟨w7,hw9⟩:∃ w',w'=w6.drew:=⟨_,rfl⟩
 have hb:Below w6.heap.size w6 w7:=by rw [hw9]; exact (Below.refl _ _).drew
 rw [← hw9] at hHeld ⊢
 clear hw9
 have HMw7:=Lib.hid (HMw6.out.below hb)
 have HOw7:=Lib.hid (HOw6.out.of_block (hb.block _ HOw6.out.lt))
 have HTC:=Lib.hid (HTC.out.trans (Tch.of_below hb))
 clear hb x8 x9
 have hr2:updV (rowsS P ls lv ab s V) 1 ⟨3,1,.slice (some ⟨q1,0,none⟩) P c1,P,(kvI (fun p => (s.at_ p:Int)) P).set p (.int .i64 (A1:Nat))⟩ 2=⟨3,1,.slice (some ⟨q2,0,none⟩) P c2,P,kvI s.nw P⟩:=HR.out.2.1
 have x2:=((HMw7.out.at_ (by omega) hr2).1 p (by have:=HP.out.1; omega)).trans (kvI_at _ HP.out.1)
 have f2:=(HMw7.out.at_ (by omega) hr2).2.1
 have HMw8:=Lib.hid (HMw7.out.set (by omega) hr2 p (.int .i64 (s.N:Nat)))
 clear hr2
 refine tkR 0 rfl ?_
 refine tkR 1 rfl ?_
 refine tkR 2 rfl ?_
 refine tkR 3 rfl ?_
 refine tkR 4 rfl ?_
 refine tkR 5 rfl ?_
 refine tkR 6 rfl ?_
 refine tkR 7 rfl ?_
 refine tkR 8 rfl ?_
 refine tkR 9 rfl ?_
 refine tkR 10 rfl ?_
 refine clR 11 rfl fun K hK => ?_
 go_simp
 refine hK.out _ _ ?_ (fun hHeld => ?_)
 ·(try dsimp only)
  exact ⟨by rw [← HE.out.2.1]; exact HMw8.out.cell (i:=8) (by omega),by rw [← HE.out.2.2.1]; exact HMw8.out.cell (i:=9) (by omega)⟩
 clear hK K
 (try simp only [Act.put,sqA,sqB,sqC])
 refine wpAnyH_done (by kernel_rfl) ?_ _
 clear hHeld x2 f2
 obtain ⟨w8,hw8⟩:∃ w',w'=w7.setCell ⟨q2,p,none⟩ (.int .i64 (s.N:Nat)):=⟨_,rfl⟩
 rw [← hw8] at HMw8 ⊢
 have HOw8:Hid (w8.rowIs ob 106 7 (fun j => (opC o).getD j (.bool false))):=by rw [hw8]; exact HOw7.out.setOther (by show ob ≠ q2; exact fun e => HQL.out.2.1 e.symm) _
 have HTC:=Lib.hid (show Tch (RunD lo rb L) w w8 from by rw [hw8]; exact HTC.out.setCell (.inr (.inr HQL.out.2.2.2)) _)
 clear hw8 HOw7 HOw6 HOw5 HOw4 HOw3 HMw7 HMw6 HMw5 HMw4 HMw3 HM2 HM HCW
 go_upto_region 11 with fail
 obtain ⟨t,htt⟩:∃ t,t=s.m.t:=⟨_,rfl⟩
 have HTT:=Lib.hid htt
 have hofr:¬ RowD (7 + P) (updV (updV (rowsS P ls lv ab s V) 1 ⟨3,1,.slice (some ⟨q1,0,none⟩) P c1,P,(kvI (fun p => (s.at_ p:Int)) P).set p (.int .i64 (A1:Nat))⟩) 2 ⟨3,1,.slice (some ⟨q2,0,none⟩) P c2,P,(kvI s.nw P).set p (.int .i64 (s.N:Nat))⟩) ob:=fun h => HOF.out (RowD_upd (K:=7 + P) (R:=rowsS P ls lv ab s V) (k:=1) (r:=⟨3,1,.slice (some ⟨q1,0,none⟩) P c1,P,(kvI (fun p => (s.at_ p:Int)) P).set p (.int .i64 (A1:Nat))⟩) (congrArg RowV.v HR.out.1).symm (RowD_upd (K:=7 + P) (R:=updV (rowsS P ls lv ab s V) 1 ⟨3,1,.slice (some ⟨q1,0,none⟩) P c1,P,(kvI (fun p => (s.at_ p:Int)) P).set p (.int .i64 (A1:Nat))⟩) (k:=2) (r:=⟨3,1,.slice (some ⟨q2,0,none⟩) P c2,P,(kvI s.nw P).set p (.int .i64 (s.N:Nat))⟩) (congrArg RowV.v HR.out.2.1).symm h))
 have HLO:Hid (LitAt w8 (7 + P) (updV (updV (rowsS P ls lv ab s V) 1 ⟨3,1,.slice (some ⟨q1,0,none⟩) P c1,P,(kvI (fun p => (s.at_ p:Int)) P).set p (.int .i64 (A1:Nat))⟩) 2 ⟨3,1,.slice (some ⟨q2,0,none⟩) P c2,P,(kvI s.nw P).set p (.int .i64 (s.N:Nat))⟩) ob 7 (opC o)):=Lib.hid (LitAt.of_row HOw8.out rfl (fun j hj => by
  match j,hj with
  | 0,_ => rfl
  | 1,_ => rfl
  | 2,_ => rfl
  | 3,_ => rfl
  | 4,_ => rfl
  | 5,_ => rfl
  | 6,_ => rfl
  | _ + 7,hh => exact absurd hh (by omega)) hofr)
 have HRX:Hid (_∧_∧_∧_):=⟨HR.out.2.2.1,HR.out.2.2.2.1,HR.out.2.2.2.2.1,HR.out.2.2.2.2.2⟩
 clear htt hofr HOw8
 go_cut [4] (fun x4 wc => x4=.bool false∧∃ (abX:Nat→Nat) (EX:Nat→Nat→Prop) (VX:Nat→Value),Hid (RunM wc lo b fb rb L F s.m (s.N + 1) (updA s.A s.N (begA F (p:Int) o)) abX EX g (7 + P) (rowsS P ls lv abX (begR F s p o) VX) VX)∧Hid (Tch (RunD lo rb L) w wc))
 case first =>
  obtain ⟨EX,HM⟩:∃ E,Hid (RunM w8 lo b fb rb L F s.m (s.N + 1) (updA s.A s.N (begA F (p:Int) o)) (updN ab s.N ab9) E g (7 + P) (updV (updV (rowsS P ls lv ab s V) 1 ⟨3,1,.slice (some ⟨q1,0,none⟩) P c1,P,(kvI (fun p => (s.at_ p:Int)) P).set p (.int .i64 (A1:Nat))⟩) 2 ⟨3,1,.slice (some ⟨q2,0,none⟩) P c2,P,(kvI s.nw P).set p (.int .i64 (s.N:Nat))⟩) V):=⟨_,HMw8⟩
  have HSF:=Lib.hid fun W R (hM9:RunM W lo b fb rb L F s.m (s.N + 1) (updA s.A s.N (begA F (p:Int) o)) (updN ab s.N ab9) EX g (7 + P) R V) (hL9:LitAt W (7 + P) R ob 7 (opC o)) => show (fun w' => w'.cell? ⟨rb,0,none⟩=some (.pointer (some ⟨b,0,none⟩))∧(w'.cell? ⟨rb,9,none⟩=some (.slice A3 s.N c3)∧w'.cell? ⟨rb,10,none⟩=some (.slice A4 s.N c4)∧w'.cell? ⟨rb,11,none⟩=some (.slice A5 s.N c5)∧w'.cell? ⟨rb,12,none⟩=some (.slice A6 s.N c6))∧w'.cell? ⟨ob,0,none⟩=some (.int .i64 (o.K:Nat))∧w'.cell? ⟨ob,1,none⟩=some (.int .i64 o.v)∧w'.cell? ⟨ob,2,none⟩=some (.int .u64 (o.mc:Nat))∧w'.cell? ⟨ob,3,none⟩=some (.int .i64 o.port)∧w'.cell? ⟨ob,4,none⟩=some (.int .i64 o.vid)∧w'.cell? ⟨ob,5,none⟩=some (.int .u32 (o.now:Nat))∧w'.cell? ⟨ob,6,none⟩=some (.int .u32 (o.old:Nat))) W from
   ⟨hM9.cell (i:=0) (by omega),⟨by rw [← HE.out.2.2.1]; exact hM9.cell (i:=9) (by omega),by rw [← HE.out.2.2.2.1]; exact hM9.cell (i:=10) (by omega),by rw [← HE.out.2.2.2.2.1]; exact hM9.cell (i:=11) (by omega),by rw [← HE.out.2.2.2.2.2]; exact hM9.cell (i:=12) (by omega)⟩,hL9.cell (j:=0) (by omega),hL9.cell (j:=1) (by omega),hL9.cell (j:=2) (by omega),hL9.cell (j:=3) (by omega),hL9.cell (j:=4) (by omega),hL9.cell (j:=5) (by omega),hL9.cell (j:=6) (by omega)⟩
  have HOW1:=Lib.hid fun W R (hM9:RunM W lo b fb rb L F s.m (s.N + 1) (updA s.A s.N (begA F (p:Int) o)) (updN ab s.N ab9) EX g (7 + P) R V) (hr9:R 3=rowsS P ls lv ab s V 3) => show W.ownsRow L 42 1 (.slice A3 s.N c3) s.N (ptI ab s.N) from by
   have h9:=hM9.rows.own 3 (by omega)
   rw [hr9,HRX.out.1] at h9
   exact h9
  have HOW2:=Lib.hid fun W R (hM9:RunM W lo b fb rb L F s.m (s.N + 1) (updA s.A s.N (begA F (p:Int) o)) (updN ab s.N ab9) EX g (7 + P) R V) (hr9:R 4=rowsS P ls lv ab s V 4) => show W.ownsRow L 106 7 (.slice A4 s.N c4) s.N (opc ((List.range s.N).map s.op)) from by
   have h9:=hM9.rows.own 4 (by omega)
   rw [hr9,HRX.out.2.1] at h9
   exact h9
  have HOW3:=Lib.hid fun W R (hM9:RunM W lo b fb rb L F s.m (s.N + 1) (updA s.A s.N (begA F (p:Int) o)) (updN ab s.N ab9) EX g (7 + P) R V) (hr9:R 5=rowsS P ls lv ab s V 5) => show W.ownsRow L 3 1 (.slice A5 s.N c5) s.N (kvI s.fr s.N) from by
   have h9:=hM9.rows.own 5 (by omega)
   rw [hr9,HRX.out.2.2.1] at h9
   exact h9
  have HOW4:=Lib.hid fun W R (hM9:RunM W lo b fb rb L F s.m (s.N + 1) (updA s.A s.N (begA F (p:Int) o)) (updN ab s.N ab9) EX g (7 + P) R V) (hr9:R 6=rowsS P ls lv ab s V 6) => show W.ownsRow L 3 1 (.slice A6 s.N c6) s.N (kvI s.tt s.N) from by
   have h9:=hM9.rows.own 6 (by omega)
   rw [hr9,HRX.out.2.2.2] at h9
   exact h9
  clear HMw8
  refine startQ (S:=fun w' => w'.cell? ⟨rb,0,none⟩=some (.pointer (some ⟨b,0,none⟩))∧(w'.cell? ⟨rb,9,none⟩=some (.slice A3 s.N c3)∧w'.cell? ⟨rb,10,none⟩=some (.slice A4 s.N c4)∧w'.cell? ⟨rb,11,none⟩=some (.slice A5 s.N c5)∧w'.cell? ⟨rb,12,none⟩=some (.slice A6 s.N c6))∧w'.cell? ⟨ob,0,none⟩=some (.int .i64 (o.K:Nat))∧w'.cell? ⟨ob,1,none⟩=some (.int .i64 o.v)∧w'.cell? ⟨ob,2,none⟩=some (.int .u64 (o.mc:Nat))∧w'.cell? ⟨ob,3,none⟩=some (.int .i64 o.port)∧w'.cell? ⟨ob,4,none⟩=some (.int .i64 o.vid)∧w'.cell? ⟨ob,5,none⟩=some (.int .u32 (o.now:Nat))∧w'.cell? ⟨ob,6,none⟩=some (.int .u32 (o.old:Nat))) 37 (by kernel_rfl) (HSF.out _ _ (HM.out.below ((Below.refl _ _).drew)) (HLO.out.below ((Below.refl _ _).drew))) (fun hHeld => ?_)
  obtain ⟨w9,hw9⟩:∃ w',w'=w8.drew:=⟨_,rfl⟩
  have hb:Below w8.heap.size w8 w9:=by rw [hw9]; exact (Below.refl _ _).drew
  rw [← hw9] at hHeld ⊢
  clear hw9
  have HM:=Lib.hid (HM.out.below hb)
  have HLO:=Lib.hid (HLO.out.below hb)
  have HTC:=Lib.hid (HTC.out.trans (Tch.of_below hb))
  clear hb
  refine tkQ 0 [] rfl ?_
  refine tkF 1 rfl ?_
  refine tkF 2 rfl ?_
  refine tkF 3 rfl ?_
  refine tkQ 4 [] rfl ?_
  refine tkQ 5 [] rfl ?_
  refine tkQ 6 [] rfl ?_
  refine tkQ 7 [] rfl ?_
  refine tkQ 8 [] rfl ?_
  refine tkQ 11 [14,13,12] rfl ?_
  refine tkQ 12 [14,13] rfl ?_
  refine tkQ 13 [14] rfl ?_
  refine tkQ 14 [] rfl ?_
  refine tkQ 15 [17,16] rfl ?_
  refine tkQ 18 [21,20,19] rfl ?_
  refine tkQ 19 [21,20] rfl ?_
  refine tkQ 20 [21] rfl ?_
  refine tkQ 21 [] rfl ?_
  refine tkQ 22 [25,24,23] rfl ?_
  refine tkQ 23 [25,24] rfl ?_
  refine tkQ 24 [25] rfl ?_
  refine tkQ 25 [] rfl ?_
  refine tkQ 29 [32,31,30] rfl ?_
  refine tkQ 30 [32,31] rfl ?_
  refine tkQ 31 [32] rfl ?_
  refine tkQ 32 [] rfl ?_
  apply cutN (α:=World→Nat→Nat→Nat→Nat→Option Addr→Nat→Option Addr→Nat→Option Addr→Nat→Prop) (fun T => ∀ (z:World) (g1:Nat) (g2:Nat) (g3:Nat) (g4:Nat) (B1:Option Addr) (e19:Nat) (B2:Option Addr) (e29:Nat) (B3:Option Addr) (e39:Nat),T z g1 g2 g3 g4 B1 e19 B2 e29 B3 e39)
  ·intro K10
   apply cutN (α:=World→Nat→Nat→Nat→Nat→Option Addr→Nat→Option Addr→Nat→Prop) (fun T => ∀ (z:World) (g1:Nat) (g2:Nat) (g3:Nat) (g4:Nat) (B1:Option Addr) (e19:Nat) (B2:Option Addr) (e29:Nat),T z g1 g2 g3 g4 B1 e19 B2 e29)
   ·intro K9
    apply cutN (α:=World→Nat→Nat→Nat→Option Addr→Nat→Option Addr→Nat→Prop) (fun T => ∀ (z:World) (g1:Nat) (g2:Nat) (g4:Nat) (B1:Option Addr) (e19:Nat) (B2:Option Addr) (e29:Nat),T z g1 g2 g4 B1 e19 B2 e29)
    ·intro K8
     apply cutN (α:=World→Nat→Nat→Nat→Option Addr→Nat→Option Addr→Nat→Prop) (fun T => ∀ (z:World) (g1:Nat) (g2:Nat) (g4:Nat) (B1:Option Addr) (e19:Nat) (B2:Option Addr) (e29:Nat),T z g1 g2 g4 B1 e19 B2 e29)
     ·intro K7
      apply cutN (α:=World→Nat→Nat→Nat→Option Addr→Nat→Prop) (fun T => ∀ (z:World) (g1:Nat) (g2:Nat) (g4:Nat) (B1:Option Addr) (e19:Nat),T z g1 g2 g4 B1 e19)
      ·intro K6
       apply cutN (α:=World→Nat→Nat→Option Addr→Nat→Prop) (fun T => ∀ (z:World) (g1:Nat) (g2:Nat) (B1:Option Addr) (e19:Nat),T z g1 g2 B1 e19)
       ·intro K5
        apply cutN (α:=World→Nat→Nat→Option Addr→Nat→Prop) (fun T => ∀ (z:World) (g1:Nat) (g4:Nat) (B1:Option Addr) (e19:Nat),T z g1 g4 B1 e19)
        ·intro K4
         apply cutN (α:=World→Nat→Nat→Nat→Prop) (fun T => ∀ (z:World) (g1:Nat) (g2:Nat) (g4:Nat),T z g1 g2 g4)
         ·intro K3
          apply cutN (α:=World→Nat→Nat→Prop) (fun T => ∀ (z:World) (g1:Nat) (g2:Nat),T z g1 g2)
          ·intro K2
           apply cutN (α:=World→Nat→Nat→Prop) (fun T => ∀ (z:World) (g1:Nat) (g4:Nat),T z g1 g4)
           ·intro K1
            apply cutN (α:=World→Nat→Nat→Prop) (fun T => ∀ (z:World) (g2:Nat) (g4:Nat),T z g2 g4)
            ·intro K0
             refine readyQ (rs:=[9,16,33]) (by kernel_rfl) (by simp) ?_
             refine (acQ rfl (fun K hK => ?_) (acQ rfl (fun K hK => ?_) (acQ rfl (fun K hK => ?_) nilQ)))
             ·go_simp
              refine hK.out _ _ ?_ (fun hHeld => ?_)
              ·(try dsimp only)
               exact fun _ => HSF.out _ _ (HM.out.lit #[.pointer (some ⟨ab9,0,none⟩)] 42 1 rfl).1 (HLO.out.below ((Below.refl _ _).alloc (Nat.le_refl _) _))
              clear hK K
              (try simp only [Act.put,sqA,sqB,sqC])
              have hHeld:=hHeld (by kernel_rfl)
              have HLK:=Lib.hid (HM.out.lit #[.pointer (some ⟨ab9,0,none⟩)] 42 1 rfl)
              have hb:Below w9.heap.size w9 (w9.alloc (.cells #[.pointer (some ⟨ab9,0,none⟩)] 42)):=(Below.refl _ _).alloc (Nat.le_refl _) _
              obtain ⟨z0,hw9⟩:∃ w',w'=w9.alloc (.cells #[.pointer (some ⟨ab9,0,none⟩)] 42):=⟨_,rfl⟩
              obtain ⟨g1,hg9⟩:∃ x,x=w9.heap.size:=⟨_,rfl⟩
              rw [← hw9,← hg9] at HLK
              rw [← hw9] at hb
              rw [← hw9] at hHeld ⊢
              rw [← hg9]
              have HLO:=Lib.hid (HLO.out.below hb)
              have HTC:=Lib.hid (HTC.out.trans (Tch.of_below hb))
              have HL1:=Lib.hid HLK.out.2
              have HM:=Lib.hid HLK.out.1
              clear hb hw9 hg9 HLK
              refine readyQ (rs:=[10,16,33]) (by kernel_rfl) (by simp) ?_
              refine (acQ rfl (fun K hK => ?_) (acQ rfl (fun K hK => ?_) (acQ rfl (fun K hK => ?_) nilQ)))
              ·refine step_app _ (by rfl) stActs _ _ (by rfl) L _ s.N _ (by rfl) (HOW1.out _ _ HM.out rfl) (g1 + 1) _ 1 [.pointer (some ⟨ab9,0,none⟩)] (by rfl) HL1.out.sl (by simp [Value.oneCell',opC]) (by have:=HNB.out; omega) HM.out.ord.2.2 ?_
               intro v2 z1 hown2 hgr2 hat2 hbel2
               obtain ⟨B1,e19,hv2,_,_⟩:=(Sl.of_own hown2).form
               subst hv2
               have HAP:=Lib.hid (HM.out.app' (k:=3) (by omega) HRX.out.1 hown2 hgr2 hat2)
               have HLO:=Lib.hid (HLO.out.app (k:=3) (r:=⟨42,1,.slice B1 (s.N + 1) e19,s.N + 1,ptI ab s.N ++ [.pointer (some ⟨ab9,0,none⟩)]⟩) (by omega) (congrArg RowV.v HRX.out.1) HAP.out.2.1 rfl HAP.out.2.2)
               have HTC:=Lib.hid (HTC.out.trans (HAP.out.2.1.mono fun y hy e => .inr (.inr (HM.out.rows.lt ⟨3,by omega,(congrArg (fun x:RowV => x.v.ownBlock) HRX.out.1).trans e⟩).1)))
               have HM:=Lib.hid HAP.out.1
               clear HAP hown2 hgr2 hat2 hbel2
               refine hK.out _ _ ?_ (fun hHeld => ?_)
               ·(try dsimp only)
                exact fun _ => HSF.out _ _ HM.out HLO.out
               clear hK K
               (try simp only [Act.put,sqA,sqB,sqC])
               have hHeld:=hHeld (by kernel_rfl)
               refine readyQ (rs:=[16,33]) (by kernel_rfl) (by simp) ?_
               refine (acQ rfl (fun K hK => ?_) (acQ rfl (fun K hK => ?_) nilQ))
               ·go_simp
                refine hK.out _ _ ?_ (fun hHeld => ?_)
                ·(try dsimp only)
                 exact fun _ => HSF.out _ _ (HM.out.lit #[.int .i64 (o.K:Nat),.int .i64 o.v,.int .u64 (o.mc:Nat),.int .i64 o.port,.int .i64 o.vid,.int .u32 (o.now:Nat),.int .u32 (o.old:Nat)] 106 7 rfl).1 (HLO.out.below ((Below.refl _ _).alloc (Nat.le_refl _) _))
                clear hK K
                (try simp only [Act.put,sqA,sqB,sqC])
                have hHeld:=hHeld (by kernel_rfl)
                have HLK:=Lib.hid (HM.out.lit #[.int .i64 (o.K:Nat),.int .i64 o.v,.int .u64 (o.mc:Nat),.int .i64 o.port,.int .i64 o.vid,.int .u32 (o.now:Nat),.int .u32 (o.old:Nat)] 106 7 rfl)
                have hb:Below z1.heap.size z1 (z1.alloc (.cells #[.int .i64 (o.K:Nat),.int .i64 o.v,.int .u64 (o.mc:Nat),.int .i64 o.port,.int .i64 o.vid,.int .u32 (o.now:Nat),.int .u32 (o.old:Nat)] 106)):=(Below.refl _ _).alloc (Nat.le_refl _) _
                obtain ⟨z2,hw9⟩:∃ w',w'=z1.alloc (.cells #[.int .i64 (o.K:Nat),.int .i64 o.v,.int .u64 (o.mc:Nat),.int .i64 o.port,.int .i64 o.vid,.int .u32 (o.now:Nat),.int .u32 (o.old:Nat)] 106):=⟨_,rfl⟩
                obtain ⟨g2,hg9⟩:∃ x,x=z1.heap.size:=⟨_,rfl⟩
                rw [← hw9,← hg9] at HLK
                rw [← hw9] at hb
                rw [← hw9] at hHeld ⊢
                rw [← hg9]
                have HLO:=Lib.hid (HLO.out.below hb)
                have HTC:=Lib.hid (HTC.out.trans (Tch.of_below hb))
                have HL2:=Lib.hid HLK.out.2
                have HM:=Lib.hid HLK.out.1
                clear hb hw9 hg9 HLK
                refine giveQ hHeld ?_
                refine giveQ HL2 ?_
                refine giveQ HTC ?_
                refine giveQ HLO ?_
                refine giveQ HM ?_
                exact K5 z2 g1 g2 B1 e19
               ·go_simp
                refine hK.out _ _ ?_ (fun hHeld => ?_)
                ·(try dsimp only)
                 exact fun _ => HSF.out _ _ (HM.out.lit #[.int .i64 (-1)] 3 1 rfl).1 (HLO.out.below ((Below.refl _ _).alloc (Nat.le_refl _) _))
                clear hK K
                (try simp only [Act.put,sqA,sqB,sqC])
                have hHeld:=hHeld (by kernel_rfl)
                have HLK:=Lib.hid (HM.out.lit #[.int .i64 (-1)] 3 1 rfl)
                have hb:Below z1.heap.size z1 (z1.alloc (.cells #[.int .i64 (-1)] 3)):=(Below.refl _ _).alloc (Nat.le_refl _) _
                obtain ⟨z2,hw9⟩:∃ w',w'=z1.alloc (.cells #[.int .i64 (-1)] 3):=⟨_,rfl⟩
                obtain ⟨g4,hg9⟩:∃ x,x=z1.heap.size:=⟨_,rfl⟩
                rw [← hw9,← hg9] at HLK
                rw [← hw9] at hb
                rw [← hw9] at hHeld ⊢
                rw [← hg9]
                have HLO:=Lib.hid (HLO.out.below hb)
                have HTC:=Lib.hid (HTC.out.trans (Tch.of_below hb))
                have HL4:=Lib.hid HLK.out.2
                have HM:=Lib.hid HLK.out.1
                clear hb hw9 hg9 HLK
                refine giveQ hHeld ?_
                refine giveQ HL4 ?_
                refine giveQ HTC ?_
                refine giveQ HLO ?_
                refine giveQ HM ?_
                exact K4 z2 g1 g4 B1 e19
              ·go_simp
               refine hK.out _ _ ?_ (fun hHeld => ?_)
               ·(try dsimp only)
                exact fun _ => HSF.out _ _ (HM.out.lit #[.int .i64 (o.K:Nat),.int .i64 o.v,.int .u64 (o.mc:Nat),.int .i64 o.port,.int .i64 o.vid,.int .u32 (o.now:Nat),.int .u32 (o.old:Nat)] 106 7 rfl).1 (HLO.out.below ((Below.refl _ _).alloc (Nat.le_refl _) _))
               clear hK K
               (try simp only [Act.put,sqA,sqB,sqC])
               have hHeld:=hHeld (by kernel_rfl)
               have HLK:=Lib.hid (HM.out.lit #[.int .i64 (o.K:Nat),.int .i64 o.v,.int .u64 (o.mc:Nat),.int .i64 o.port,.int .i64 o.vid,.int .u32 (o.now:Nat),.int .u32 (o.old:Nat)] 106 7 rfl)
               have hb:Below z0.heap.size z0 (z0.alloc (.cells #[.int .i64 (o.K:Nat),.int .i64 o.v,.int .u64 (o.mc:Nat),.int .i64 o.port,.int .i64 o.vid,.int .u32 (o.now:Nat),.int .u32 (o.old:Nat)] 106)):=(Below.refl _ _).alloc (Nat.le_refl _) _
               obtain ⟨z1,hw9⟩:∃ w',w'=z0.alloc (.cells #[.int .i64 (o.K:Nat),.int .i64 o.v,.int .u64 (o.mc:Nat),.int .i64 o.port,.int .i64 o.vid,.int .u32 (o.now:Nat),.int .u32 (o.old:Nat)] 106):=⟨_,rfl⟩
               obtain ⟨g2,hg9⟩:∃ x,x=z0.heap.size:=⟨_,rfl⟩
               rw [← hw9,← hg9] at HLK
               rw [← hw9] at hb
               rw [← hw9] at hHeld ⊢
               rw [← hg9]
               have HLO:=Lib.hid (HLO.out.below hb)
               have HTC:=Lib.hid (HTC.out.trans (Tch.of_below hb))
               have HL1:=Lib.hid (HL1.out.below hb)
               have HL2:=Lib.hid HLK.out.2
               have HM:=Lib.hid HLK.out.1
               clear hb hw9 hg9 HLK
               refine giveQ hHeld ?_
               refine giveQ HL2 ?_
               refine giveQ HL1 ?_
               refine giveQ HTC ?_
               refine giveQ HLO ?_
               refine giveQ HM ?_
               exact K2 z1 g1 g2
              ·go_simp
               refine hK.out _ _ ?_ (fun hHeld => ?_)
               ·(try dsimp only)
                exact fun _ => HSF.out _ _ (HM.out.lit #[.int .i64 (-1)] 3 1 rfl).1 (HLO.out.below ((Below.refl _ _).alloc (Nat.le_refl _) _))
               clear hK K
               (try simp only [Act.put,sqA,sqB,sqC])
               have hHeld:=hHeld (by kernel_rfl)
               have HLK:=Lib.hid (HM.out.lit #[.int .i64 (-1)] 3 1 rfl)
               have hb:Below z0.heap.size z0 (z0.alloc (.cells #[.int .i64 (-1)] 3)):=(Below.refl _ _).alloc (Nat.le_refl _) _
               obtain ⟨z1,hw9⟩:∃ w',w'=z0.alloc (.cells #[.int .i64 (-1)] 3):=⟨_,rfl⟩
               obtain ⟨g4,hg9⟩:∃ x,x=z0.heap.size:=⟨_,rfl⟩
               rw [← hw9,← hg9] at HLK
               rw [← hw9] at hb
               rw [← hw9] at hHeld ⊢
               rw [← hg9]
               have HLO:=Lib.hid (HLO.out.below hb)
               have HTC:=Lib.hid (HTC.out.trans (Tch.of_below hb))
               have HL1:=Lib.hid (HL1.out.below hb)
               have HL4:=Lib.hid HLK.out.2
               have HM:=Lib.hid HLK.out.1
               clear hb hw9 hg9 HLK
               refine giveQ hHeld ?_
               refine giveQ HL4 ?_
               refine giveQ HL1 ?_
               refine giveQ HTC ?_
               refine giveQ HLO ?_
               refine giveQ HM ?_
               exact K1 z1 g1 g4
             ·go_simp
              refine hK.out _ _ ?_ (fun hHeld => ?_)
              ·(try dsimp only)
               exact fun _ => HSF.out _ _ (HM.out.lit #[.int .i64 (o.K:Nat),.int .i64 o.v,.int .u64 (o.mc:Nat),.int .i64 o.port,.int .i64 o.vid,.int .u32 (o.now:Nat),.int .u32 (o.old:Nat)] 106 7 rfl).1 (HLO.out.below ((Below.refl _ _).alloc (Nat.le_refl _) _))
              clear hK K
              (try simp only [Act.put,sqA,sqB,sqC])
              have hHeld:=hHeld (by kernel_rfl)
              have HLK:=Lib.hid (HM.out.lit #[.int .i64 (o.K:Nat),.int .i64 o.v,.int .u64 (o.mc:Nat),.int .i64 o.port,.int .i64 o.vid,.int .u32 (o.now:Nat),.int .u32 (o.old:Nat)] 106 7 rfl)
              have hb:Below w9.heap.size w9 (w9.alloc (.cells #[.int .i64 (o.K:Nat),.int .i64 o.v,.int .u64 (o.mc:Nat),.int .i64 o.port,.int .i64 o.vid,.int .u32 (o.now:Nat),.int .u32 (o.old:Nat)] 106)):=(Below.refl _ _).alloc (Nat.le_refl _) _
              obtain ⟨z0,hw9⟩:∃ w',w'=w9.alloc (.cells #[.int .i64 (o.K:Nat),.int .i64 o.v,.int .u64 (o.mc:Nat),.int .i64 o.port,.int .i64 o.vid,.int .u32 (o.now:Nat),.int .u32 (o.old:Nat)] 106):=⟨_,rfl⟩
              obtain ⟨g2,hg9⟩:∃ x,x=w9.heap.size:=⟨_,rfl⟩
              rw [← hw9,← hg9] at HLK
              rw [← hw9] at hb
              rw [← hw9] at hHeld ⊢
              rw [← hg9]
              have HLO:=Lib.hid (HLO.out.below hb)
              have HTC:=Lib.hid (HTC.out.trans (Tch.of_below hb))
              have HL2:=Lib.hid HLK.out.2
              have HM:=Lib.hid HLK.out.1
              clear hb hw9 hg9 HLK
              refine readyQ (rs:=[9,33]) (by kernel_rfl) (by simp) ?_
              refine (acQ rfl (fun K hK => ?_) (acQ rfl (fun K hK => ?_) nilQ))
              ·go_simp
               refine hK.out _ _ ?_ (fun hHeld => ?_)
               ·(try dsimp only)
                exact fun _ => HSF.out _ _ (HM.out.lit #[.pointer (some ⟨ab9,0,none⟩)] 42 1 rfl).1 (HLO.out.below ((Below.refl _ _).alloc (Nat.le_refl _) _))
               clear hK K
               (try simp only [Act.put,sqA,sqB,sqC])
               have hHeld:=hHeld (by kernel_rfl)
               have HLK:=Lib.hid (HM.out.lit #[.pointer (some ⟨ab9,0,none⟩)] 42 1 rfl)
               have hb:Below z0.heap.size z0 (z0.alloc (.cells #[.pointer (some ⟨ab9,0,none⟩)] 42)):=(Below.refl _ _).alloc (Nat.le_refl _) _
               obtain ⟨z1,hw9⟩:∃ w',w'=z0.alloc (.cells #[.pointer (some ⟨ab9,0,none⟩)] 42):=⟨_,rfl⟩
               obtain ⟨g1,hg9⟩:∃ x,x=z0.heap.size:=⟨_,rfl⟩
               rw [← hw9,← hg9] at HLK
               rw [← hw9] at hb
               rw [← hw9] at hHeld ⊢
               rw [← hg9]
               have HLO:=Lib.hid (HLO.out.below hb)
               have HTC:=Lib.hid (HTC.out.trans (Tch.of_below hb))
               have HL2:=Lib.hid (HL2.out.below hb)
               have HL1:=Lib.hid HLK.out.2
               have HM:=Lib.hid HLK.out.1
               clear hb hw9 hg9 HLK
               refine giveQ hHeld ?_
               refine giveQ HL2 ?_
               refine giveQ HL1 ?_
               refine giveQ HTC ?_
               refine giveQ HLO ?_
               refine giveQ HM ?_
               exact K2 z1 g1 g2
              ·go_simp
               refine hK.out _ _ ?_ (fun hHeld => ?_)
               ·(try dsimp only)
                exact fun _ => HSF.out _ _ (HM.out.lit #[.int .i64 (-1)] 3 1 rfl).1 (HLO.out.below ((Below.refl _ _).alloc (Nat.le_refl _) _))
               clear hK K
               (try simp only [Act.put,sqA,sqB,sqC])
               have hHeld:=hHeld (by kernel_rfl)
               have HLK:=Lib.hid (HM.out.lit #[.int .i64 (-1)] 3 1 rfl)
               have hb:Below z0.heap.size z0 (z0.alloc (.cells #[.int .i64 (-1)] 3)):=(Below.refl _ _).alloc (Nat.le_refl _) _
               obtain ⟨z1,hw9⟩:∃ w',w'=z0.alloc (.cells #[.int .i64 (-1)] 3):=⟨_,rfl⟩
               obtain ⟨g4,hg9⟩:∃ x,x=z0.heap.size:=⟨_,rfl⟩
               rw [← hw9,← hg9] at HLK
               rw [← hw9] at hb
               rw [← hw9] at hHeld ⊢
               rw [← hg9]
               have HLO:=Lib.hid (HLO.out.below hb)
               have HTC:=Lib.hid (HTC.out.trans (Tch.of_below hb))
               have HL2:=Lib.hid (HL2.out.below hb)
               have HL4:=Lib.hid HLK.out.2
               have HM:=Lib.hid HLK.out.1
               clear hb hw9 hg9 HLK
               refine giveQ hHeld ?_
               refine giveQ HL4 ?_
               refine giveQ HL2 ?_
               refine giveQ HTC ?_
               refine giveQ HLO ?_
               refine giveQ HM ?_
               exact K0 z1 g2 g4
             ·go_simp
              refine hK.out _ _ ?_ (fun hHeld => ?_)
              ·(try dsimp only)
               exact fun _ => HSF.out _ _ (HM.out.lit #[.int .i64 (-1)] 3 1 rfl).1 (HLO.out.below ((Below.refl _ _).alloc (Nat.le_refl _) _))
              clear hK K
              (try simp only [Act.put,sqA,sqB,sqC])
              have hHeld:=hHeld (by kernel_rfl)
              have HLK:=Lib.hid (HM.out.lit #[.int .i64 (-1)] 3 1 rfl)
              have hb:Below w9.heap.size w9 (w9.alloc (.cells #[.int .i64 (-1)] 3)):=(Below.refl _ _).alloc (Nat.le_refl _) _
              obtain ⟨z0,hw9⟩:∃ w',w'=w9.alloc (.cells #[.int .i64 (-1)] 3):=⟨_,rfl⟩
              obtain ⟨g4,hg9⟩:∃ x,x=w9.heap.size:=⟨_,rfl⟩
              rw [← hw9,← hg9] at HLK
              rw [← hw9] at hb
              rw [← hw9] at hHeld ⊢
              rw [← hg9]
              have HLO:=Lib.hid (HLO.out.below hb)
              have HTC:=Lib.hid (HTC.out.trans (Tch.of_below hb))
              have HL4:=Lib.hid HLK.out.2
              have HM:=Lib.hid HLK.out.1
              clear hb hw9 hg9 HLK
              refine readyQ (rs:=[9,16]) (by kernel_rfl) (by simp) ?_
              refine (acQ rfl (fun K hK => ?_) (acQ rfl (fun K hK => ?_) nilQ))
              ·go_simp
               refine hK.out _ _ ?_ (fun hHeld => ?_)
               ·(try dsimp only)
                exact fun _ => HSF.out _ _ (HM.out.lit #[.pointer (some ⟨ab9,0,none⟩)] 42 1 rfl).1 (HLO.out.below ((Below.refl _ _).alloc (Nat.le_refl _) _))
               clear hK K
               (try simp only [Act.put,sqA,sqB,sqC])
               have hHeld:=hHeld (by kernel_rfl)
               have HLK:=Lib.hid (HM.out.lit #[.pointer (some ⟨ab9,0,none⟩)] 42 1 rfl)
               have hb:Below z0.heap.size z0 (z0.alloc (.cells #[.pointer (some ⟨ab9,0,none⟩)] 42)):=(Below.refl _ _).alloc (Nat.le_refl _) _
               obtain ⟨z1,hw9⟩:∃ w',w'=z0.alloc (.cells #[.pointer (some ⟨ab9,0,none⟩)] 42):=⟨_,rfl⟩
               obtain ⟨g1,hg9⟩:∃ x,x=z0.heap.size:=⟨_,rfl⟩
               rw [← hw9,← hg9] at HLK
               rw [← hw9] at hb
               rw [← hw9] at hHeld ⊢
               rw [← hg9]
               have HLO:=Lib.hid (HLO.out.below hb)
               have HTC:=Lib.hid (HTC.out.trans (Tch.of_below hb))
               have HL4:=Lib.hid (HL4.out.below hb)
               have HL1:=Lib.hid HLK.out.2
               have HM:=Lib.hid HLK.out.1
               clear hb hw9 hg9 HLK
               refine giveQ hHeld ?_
               refine giveQ HL4 ?_
               refine giveQ HL1 ?_
               refine giveQ HTC ?_
               refine giveQ HLO ?_
               refine giveQ HM ?_
               exact K1 z1 g1 g4
              ·go_simp
               refine hK.out _ _ ?_ (fun hHeld => ?_)
               ·(try dsimp only)
                exact fun _ => HSF.out _ _ (HM.out.lit #[.int .i64 (o.K:Nat),.int .i64 o.v,.int .u64 (o.mc:Nat),.int .i64 o.port,.int .i64 o.vid,.int .u32 (o.now:Nat),.int .u32 (o.old:Nat)] 106 7 rfl).1 (HLO.out.below ((Below.refl _ _).alloc (Nat.le_refl _) _))
               clear hK K
               (try simp only [Act.put,sqA,sqB,sqC])
               have hHeld:=hHeld (by kernel_rfl)
               have HLK:=Lib.hid (HM.out.lit #[.int .i64 (o.K:Nat),.int .i64 o.v,.int .u64 (o.mc:Nat),.int .i64 o.port,.int .i64 o.vid,.int .u32 (o.now:Nat),.int .u32 (o.old:Nat)] 106 7 rfl)
               have hb:Below z0.heap.size z0 (z0.alloc (.cells #[.int .i64 (o.K:Nat),.int .i64 o.v,.int .u64 (o.mc:Nat),.int .i64 o.port,.int .i64 o.vid,.int .u32 (o.now:Nat),.int .u32 (o.old:Nat)] 106)):=(Below.refl _ _).alloc (Nat.le_refl _) _
               obtain ⟨z1,hw9⟩:∃ w',w'=z0.alloc (.cells #[.int .i64 (o.K:Nat),.int .i64 o.v,.int .u64 (o.mc:Nat),.int .i64 o.port,.int .i64 o.vid,.int .u32 (o.now:Nat),.int .u32 (o.old:Nat)] 106):=⟨_,rfl⟩
               obtain ⟨g2,hg9⟩:∃ x,x=z0.heap.size:=⟨_,rfl⟩
               rw [← hw9,← hg9] at HLK
               rw [← hw9] at hb
               rw [← hw9] at hHeld ⊢
               rw [← hg9]
               have HLO:=Lib.hid (HLO.out.below hb)
               have HTC:=Lib.hid (HTC.out.trans (Tch.of_below hb))
               have HL4:=Lib.hid (HL4.out.below hb)
               have HL2:=Lib.hid HLK.out.2
               have HM:=Lib.hid HLK.out.1
               clear hb hw9 hg9 HLK
               refine giveQ hHeld ?_
               refine giveQ HL4 ?_
               refine giveQ HL2 ?_
               refine giveQ HTC ?_
               refine giveQ HLO ?_
               refine giveQ HM ?_
               exact K0 z1 g2 g4
            ·intro zz g2 g4 HM HLO HTC HL2 HL4 hHeld
             refine readyQ (rs:=[9]) (by kernel_rfl) (by simp) ?_
             refine (acQ rfl (fun K hK => ?_) nilQ)
             go_simp
             refine hK.out _ _ ?_ (fun hHeld => ?_)
             ·(try dsimp only)
              exact fun _ => HSF.out _ _ (HM.out.lit #[.pointer (some ⟨ab9,0,none⟩)] 42 1 rfl).1 (HLO.out.below ((Below.refl _ _).alloc (Nat.le_refl _) _))
             clear hK K
             (try simp only [Act.put,sqA,sqB,sqC])
             have hHeld:=hHeld (by kernel_rfl)
             have HLK:=Lib.hid (HM.out.lit #[.pointer (some ⟨ab9,0,none⟩)] 42 1 rfl)
             have hb:Below zz.heap.size zz (zz.alloc (.cells #[.pointer (some ⟨ab9,0,none⟩)] 42)):=(Below.refl _ _).alloc (Nat.le_refl _) _
             obtain ⟨z0,hw9⟩:∃ w',w'=zz.alloc (.cells #[.pointer (some ⟨ab9,0,none⟩)] 42):=⟨_,rfl⟩
             obtain ⟨g1,hg9⟩:∃ x,x=zz.heap.size:=⟨_,rfl⟩
             rw [← hw9,← hg9] at HLK
             rw [← hw9] at hb
             rw [← hw9] at hHeld ⊢
             rw [← hg9]
             have HLO:=Lib.hid (HLO.out.below hb)
             have HTC:=Lib.hid (HTC.out.trans (Tch.of_below hb))
             have HL2:=Lib.hid (HL2.out.below hb)
             have HL4:=Lib.hid (HL4.out.below hb)
             have HL1:=Lib.hid HLK.out.2
             have HM:=Lib.hid HLK.out.1
             clear hb hw9 hg9 HLK
             refine giveQ hHeld ?_
             refine giveQ HL4 ?_
             refine giveQ HL2 ?_
             refine giveQ HL1 ?_
             refine giveQ HTC ?_
             refine giveQ HLO ?_
             refine giveQ HM ?_
             exact K3 z0 g1 g2 g4
           ·intro zz g1 g4 HM HLO HTC HL1 HL4 hHeld
            refine readyQ (rs:=[10,16]) (by kernel_rfl) (by simp) ?_
            refine (acQ rfl (fun K hK => ?_) (acQ rfl (fun K hK => ?_) nilQ))
            ·refine step_app _ (by rfl) stActs _ _ (by rfl) L _ s.N _ (by rfl) (HOW1.out _ _ HM.out rfl) (g1 + 1) _ 1 [.pointer (some ⟨ab9,0,none⟩)] (by rfl) HL1.out.sl (by simp [Value.oneCell',opC]) (by have:=HNB.out; omega) HM.out.ord.2.2 ?_
             intro v2 z0 hown2 hgr2 hat2 hbel2
             obtain ⟨B1,e19,hv2,_,_⟩:=(Sl.of_own hown2).form
             subst hv2
             have HAP:=Lib.hid (HM.out.app' (k:=3) (by omega) HRX.out.1 hown2 hgr2 hat2)
             have HLO:=Lib.hid (HLO.out.app (k:=3) (r:=⟨42,1,.slice B1 (s.N + 1) e19,s.N + 1,ptI ab s.N ++ [.pointer (some ⟨ab9,0,none⟩)]⟩) (by omega) (congrArg RowV.v HRX.out.1) HAP.out.2.1 rfl HAP.out.2.2)
             have HTC:=Lib.hid (HTC.out.trans (HAP.out.2.1.mono fun y hy e => .inr (.inr (HM.out.rows.lt ⟨3,by omega,(congrArg (fun x:RowV => x.v.ownBlock) HRX.out.1).trans e⟩).1)))
             have HL4:=Lib.hid (HL4.out.app (k:=3) (r:=⟨42,1,.slice B1 (s.N + 1) e19,s.N + 1,ptI ab s.N ++ [.pointer (some ⟨ab9,0,none⟩)]⟩) (by omega) (congrArg RowV.v HRX.out.1) HAP.out.2.1 rfl HAP.out.2.2)
             have HM:=Lib.hid HAP.out.1
             clear HAP hown2 hgr2 hat2 hbel2
             refine hK.out _ _ ?_ (fun hHeld => ?_)
             ·(try dsimp only)
              exact fun _ => HSF.out _ _ HM.out HLO.out
             clear hK K
             (try simp only [Act.put,sqA,sqB,sqC])
             have hHeld:=hHeld (by kernel_rfl)
             refine giveQ hHeld ?_
             refine giveQ HL4 ?_
             refine giveQ HTC ?_
             refine giveQ HLO ?_
             refine giveQ HM ?_
             exact K4 z0 g1 g4 B1 e19
            ·go_simp
             refine hK.out _ _ ?_ (fun hHeld => ?_)
             ·(try dsimp only)
              exact fun _ => HSF.out _ _ (HM.out.lit #[.int .i64 (o.K:Nat),.int .i64 o.v,.int .u64 (o.mc:Nat),.int .i64 o.port,.int .i64 o.vid,.int .u32 (o.now:Nat),.int .u32 (o.old:Nat)] 106 7 rfl).1 (HLO.out.below ((Below.refl _ _).alloc (Nat.le_refl _) _))
             clear hK K
             (try simp only [Act.put,sqA,sqB,sqC])
             have hHeld:=hHeld (by kernel_rfl)
             have HLK:=Lib.hid (HM.out.lit #[.int .i64 (o.K:Nat),.int .i64 o.v,.int .u64 (o.mc:Nat),.int .i64 o.port,.int .i64 o.vid,.int .u32 (o.now:Nat),.int .u32 (o.old:Nat)] 106 7 rfl)
             have hb:Below zz.heap.size zz (zz.alloc (.cells #[.int .i64 (o.K:Nat),.int .i64 o.v,.int .u64 (o.mc:Nat),.int .i64 o.port,.int .i64 o.vid,.int .u32 (o.now:Nat),.int .u32 (o.old:Nat)] 106)):=(Below.refl _ _).alloc (Nat.le_refl _) _
             obtain ⟨z0,hw9⟩:∃ w',w'=zz.alloc (.cells #[.int .i64 (o.K:Nat),.int .i64 o.v,.int .u64 (o.mc:Nat),.int .i64 o.port,.int .i64 o.vid,.int .u32 (o.now:Nat),.int .u32 (o.old:Nat)] 106):=⟨_,rfl⟩
             obtain ⟨g2,hg9⟩:∃ x,x=zz.heap.size:=⟨_,rfl⟩
             rw [← hw9,← hg9] at HLK
             rw [← hw9] at hb
             rw [← hw9] at hHeld ⊢
             rw [← hg9]
             have HLO:=Lib.hid (HLO.out.below hb)
             have HTC:=Lib.hid (HTC.out.trans (Tch.of_below hb))
             have HL1:=Lib.hid (HL1.out.below hb)
             have HL4:=Lib.hid (HL4.out.below hb)
             have HL2:=Lib.hid HLK.out.2
             have HM:=Lib.hid HLK.out.1
             clear hb hw9 hg9 HLK
             refine giveQ hHeld ?_
             refine giveQ HL4 ?_
             refine giveQ HL2 ?_
             refine giveQ HL1 ?_
             refine giveQ HTC ?_
             refine giveQ HLO ?_
             refine giveQ HM ?_
             exact K3 z0 g1 g2 g4
          ·intro zz g1 g2 HM HLO HTC HL1 HL2 hHeld
           refine readyQ (rs:=[10,33]) (by kernel_rfl) (by simp) ?_
           refine (acQ rfl (fun K hK => ?_) (acQ rfl (fun K hK => ?_) nilQ))
           ·refine step_app _ (by rfl) stActs _ _ (by rfl) L _ s.N _ (by rfl) (HOW1.out _ _ HM.out rfl) (g1 + 1) _ 1 [.pointer (some ⟨ab9,0,none⟩)] (by rfl) HL1.out.sl (by simp [Value.oneCell',opC]) (by have:=HNB.out; omega) HM.out.ord.2.2 ?_
            intro v2 z0 hown2 hgr2 hat2 hbel2
            obtain ⟨B1,e19,hv2,_,_⟩:=(Sl.of_own hown2).form
            subst hv2
            have HAP:=Lib.hid (HM.out.app' (k:=3) (by omega) HRX.out.1 hown2 hgr2 hat2)
            have HLO:=Lib.hid (HLO.out.app (k:=3) (r:=⟨42,1,.slice B1 (s.N + 1) e19,s.N + 1,ptI ab s.N ++ [.pointer (some ⟨ab9,0,none⟩)]⟩) (by omega) (congrArg RowV.v HRX.out.1) HAP.out.2.1 rfl HAP.out.2.2)
            have HTC:=Lib.hid (HTC.out.trans (HAP.out.2.1.mono fun y hy e => .inr (.inr (HM.out.rows.lt ⟨3,by omega,(congrArg (fun x:RowV => x.v.ownBlock) HRX.out.1).trans e⟩).1)))
            have HL2:=Lib.hid (HL2.out.app (k:=3) (r:=⟨42,1,.slice B1 (s.N + 1) e19,s.N + 1,ptI ab s.N ++ [.pointer (some ⟨ab9,0,none⟩)]⟩) (by omega) (congrArg RowV.v HRX.out.1) HAP.out.2.1 rfl HAP.out.2.2)
            have HM:=Lib.hid HAP.out.1
            clear HAP hown2 hgr2 hat2 hbel2
            refine hK.out _ _ ?_ (fun hHeld => ?_)
            ·(try dsimp only)
             exact fun _ => HSF.out _ _ HM.out HLO.out
            clear hK K
            (try simp only [Act.put,sqA,sqB,sqC])
            have hHeld:=hHeld (by kernel_rfl)
            refine giveQ hHeld ?_
            refine giveQ HL2 ?_
            refine giveQ HTC ?_
            refine giveQ HLO ?_
            refine giveQ HM ?_
            exact K5 z0 g1 g2 B1 e19
           ·go_simp
            refine hK.out _ _ ?_ (fun hHeld => ?_)
            ·(try dsimp only)
             exact fun _ => HSF.out _ _ (HM.out.lit #[.int .i64 (-1)] 3 1 rfl).1 (HLO.out.below ((Below.refl _ _).alloc (Nat.le_refl _) _))
            clear hK K
            (try simp only [Act.put,sqA,sqB,sqC])
            have hHeld:=hHeld (by kernel_rfl)
            have HLK:=Lib.hid (HM.out.lit #[.int .i64 (-1)] 3 1 rfl)
            have hb:Below zz.heap.size zz (zz.alloc (.cells #[.int .i64 (-1)] 3)):=(Below.refl _ _).alloc (Nat.le_refl _) _
            obtain ⟨z0,hw9⟩:∃ w',w'=zz.alloc (.cells #[.int .i64 (-1)] 3):=⟨_,rfl⟩
            obtain ⟨g4,hg9⟩:∃ x,x=zz.heap.size:=⟨_,rfl⟩
            rw [← hw9,← hg9] at HLK
            rw [← hw9] at hb
            rw [← hw9] at hHeld ⊢
            rw [← hg9]
            have HLO:=Lib.hid (HLO.out.below hb)
            have HTC:=Lib.hid (HTC.out.trans (Tch.of_below hb))
            have HL1:=Lib.hid (HL1.out.below hb)
            have HL2:=Lib.hid (HL2.out.below hb)
            have HL4:=Lib.hid HLK.out.2
            have HM:=Lib.hid HLK.out.1
            clear hb hw9 hg9 HLK
            refine giveQ hHeld ?_
            refine giveQ HL4 ?_
            refine giveQ HL2 ?_
            refine giveQ HL1 ?_
            refine giveQ HTC ?_
            refine giveQ HLO ?_
            refine giveQ HM ?_
            exact K3 z0 g1 g2 g4
         ·intro zz g1 g2 g4 HM HLO HTC HL1 HL2 HL4 hHeld
          refine readyQ (rs:=[10]) (by kernel_rfl) (by simp) ?_
          refine (acQ rfl (fun K hK => ?_) nilQ)
          refine step_app _ (by rfl) stActs _ _ (by rfl) L _ s.N _ (by rfl) (HOW1.out _ _ HM.out rfl) (g1 + 1) _ 1 [.pointer (some ⟨ab9,0,none⟩)] (by rfl) HL1.out.sl (by simp [Value.oneCell',opC]) (by have:=HNB.out; omega) HM.out.ord.2.2 ?_
          intro v2 z0 hown2 hgr2 hat2 hbel2
          obtain ⟨B1,e19,hv2,_,_⟩:=(Sl.of_own hown2).form
          subst hv2
          have HAP:=Lib.hid (HM.out.app' (k:=3) (by omega) HRX.out.1 hown2 hgr2 hat2)
          have HLO:=Lib.hid (HLO.out.app (k:=3) (r:=⟨42,1,.slice B1 (s.N + 1) e19,s.N + 1,ptI ab s.N ++ [.pointer (some ⟨ab9,0,none⟩)]⟩) (by omega) (congrArg RowV.v HRX.out.1) HAP.out.2.1 rfl HAP.out.2.2)
          have HTC:=Lib.hid (HTC.out.trans (HAP.out.2.1.mono fun y hy e => .inr (.inr (HM.out.rows.lt ⟨3,by omega,(congrArg (fun x:RowV => x.v.ownBlock) HRX.out.1).trans e⟩).1)))
          have HL2:=Lib.hid (HL2.out.app (k:=3) (r:=⟨42,1,.slice B1 (s.N + 1) e19,s.N + 1,ptI ab s.N ++ [.pointer (some ⟨ab9,0,none⟩)]⟩) (by omega) (congrArg RowV.v HRX.out.1) HAP.out.2.1 rfl HAP.out.2.2)
          have HL4:=Lib.hid (HL4.out.app (k:=3) (r:=⟨42,1,.slice B1 (s.N + 1) e19,s.N + 1,ptI ab s.N ++ [.pointer (some ⟨ab9,0,none⟩)]⟩) (by omega) (congrArg RowV.v HRX.out.1) HAP.out.2.1 rfl HAP.out.2.2)
          have HM:=Lib.hid HAP.out.1
          clear HAP hown2 hgr2 hat2 hbel2
          refine hK.out _ _ ?_ (fun hHeld => ?_)
          ·(try dsimp only)
           exact fun _ => HSF.out _ _ HM.out HLO.out
          clear hK K
          (try simp only [Act.put,sqA,sqB,sqC])
          have hHeld:=hHeld (by kernel_rfl)
          refine giveQ hHeld ?_
          refine giveQ HL4 ?_
          refine giveQ HL2 ?_
          refine giveQ HTC ?_
          refine giveQ HLO ?_
          refine giveQ HM ?_
          exact K6 z0 g1 g2 g4 B1 e19
        ·intro zz g1 g4 B1 e19 HM HLO HTC HL4 hHeld
         refine readyQ (rs:=[16]) (by kernel_rfl) (by simp) ?_
         refine (acQ rfl (fun K hK => ?_) nilQ)
         go_simp
         refine hK.out _ _ ?_ (fun hHeld => ?_)
         ·(try dsimp only)
          exact fun _ => HSF.out _ _ (HM.out.lit #[.int .i64 (o.K:Nat),.int .i64 o.v,.int .u64 (o.mc:Nat),.int .i64 o.port,.int .i64 o.vid,.int .u32 (o.now:Nat),.int .u32 (o.old:Nat)] 106 7 rfl).1 (HLO.out.below ((Below.refl _ _).alloc (Nat.le_refl _) _))
         clear hK K
         (try simp only [Act.put,sqA,sqB,sqC])
         have hHeld:=hHeld (by kernel_rfl)
         have HLK:=Lib.hid (HM.out.lit #[.int .i64 (o.K:Nat),.int .i64 o.v,.int .u64 (o.mc:Nat),.int .i64 o.port,.int .i64 o.vid,.int .u32 (o.now:Nat),.int .u32 (o.old:Nat)] 106 7 rfl)
         have hb:Below zz.heap.size zz (zz.alloc (.cells #[.int .i64 (o.K:Nat),.int .i64 o.v,.int .u64 (o.mc:Nat),.int .i64 o.port,.int .i64 o.vid,.int .u32 (o.now:Nat),.int .u32 (o.old:Nat)] 106)):=(Below.refl _ _).alloc (Nat.le_refl _) _
         obtain ⟨z0,hw9⟩:∃ w',w'=zz.alloc (.cells #[.int .i64 (o.K:Nat),.int .i64 o.v,.int .u64 (o.mc:Nat),.int .i64 o.port,.int .i64 o.vid,.int .u32 (o.now:Nat),.int .u32 (o.old:Nat)] 106):=⟨_,rfl⟩
         obtain ⟨g2,hg9⟩:∃ x,x=zz.heap.size:=⟨_,rfl⟩
         rw [← hw9,← hg9] at HLK
         rw [← hw9] at hb
         rw [← hw9] at hHeld ⊢
         rw [← hg9]
         have HLO:=Lib.hid (HLO.out.below hb)
         have HTC:=Lib.hid (HTC.out.trans (Tch.of_below hb))
         have HL4:=Lib.hid (HL4.out.below hb)
         have HL2:=Lib.hid HLK.out.2
         have HM:=Lib.hid HLK.out.1
         clear hb hw9 hg9 HLK
         refine giveQ hHeld ?_
         refine giveQ HL4 ?_
         refine giveQ HL2 ?_
         refine giveQ HTC ?_
         refine giveQ HLO ?_
         refine giveQ HM ?_
         exact K6 z0 g1 g2 g4 B1 e19
       ·intro zz g1 g2 B1 e19 HM HLO HTC HL2 hHeld
        refine readyQ (rs:=[17,33]) (by kernel_rfl) (by simp) ?_
        refine (acQ rfl (fun K hK => ?_) (acQ rfl (fun K hK => ?_) nilQ))
        ·refine step_app _ (by rfl) stOps7 _ _ (by rfl) L _ s.N _ (by rfl) (HOW2.out _ _ HM.out rfl) (g2 + 1) _ 1 (opC o) (by rfl) HL2.out.sl (by simp [Value.oneCell',opC]) (by have:=HNB.out; omega) HM.out.ord.2.2 ?_
         intro v2 z0 hown2 hgr2 hat2 hbel2
         obtain ⟨B2,e29,hv2,_,_⟩:=(Sl.of_own hown2).form
         subst hv2
         have HAP:=Lib.hid (HM.out.app' (k:=4) (by omega) HRX.out.2.1 hown2 hgr2 hat2)
         have HLO:=Lib.hid (HLO.out.app (k:=4) (r:=⟨106,7,.slice B2 (s.N + 1) e29,s.N + 1,opc ((List.range s.N).map s.op) ++ opC o⟩) (by omega) (congrArg RowV.v HRX.out.2.1) HAP.out.2.1 rfl HAP.out.2.2)
         have HTC:=Lib.hid (HTC.out.trans (HAP.out.2.1.mono fun y hy e => .inr (.inr (HM.out.rows.lt ⟨4,by omega,(congrArg (fun x:RowV => x.v.ownBlock) HRX.out.2.1).trans e⟩).1)))
         have HM:=Lib.hid HAP.out.1
         clear HAP hown2 hgr2 hat2 hbel2
         refine hK.out _ _ ?_ (fun hHeld => ?_)
         ·(try dsimp only)
          exact fun _ => HSF.out _ _ HM.out HLO.out
         clear hK K
         (try simp only [Act.put,sqA,sqB,sqC])
         have hHeld:=hHeld (by kernel_rfl)
         refine readyQ (rs:=[26,33]) (by kernel_rfl) (by simp) ?_
         refine (acQ rfl (fun K hK => ?_) (acQ rfl (fun K hK => ?_) nilQ))
         ·go_simp
          refine (mem_Time HM.out.acts.fd.mem).mono ?_
          rintro e w9 ⟨rfl,rfl⟩
          rw [← HTT.out]
          refine hK.out _ _ ?_ (fun hHeld => ?_)
          ·(try dsimp only)
           exact fun _ => hHeld
          clear hK K
          (try simp only [Act.put,sqA,sqB,sqC])
          have hHeld:=hHeld (by kernel_rfl)
          refine readyQ (rs:=[27,33]) (by kernel_rfl) (by simp) ?_
          refine (acQ rfl (fun K hK => ?_) (acQ rfl (fun K hK => ?_) nilQ))
          ·go_simp
           refine hK.out _ _ ?_ (fun hHeld => ?_)
           ·(try dsimp only)
            exact fun _ => HSF.out _ _ (HM.out.lit #[.int .i64 t] 3 1 rfl).1 (HLO.out.below ((Below.refl _ _).alloc (Nat.le_refl _) _))
           clear hK K
           (try simp only [Act.put,sqA,sqB,sqC])
           have hHeld:=hHeld (by kernel_rfl)
           have HLK:=Lib.hid (HM.out.lit #[.int .i64 t] 3 1 rfl)
           have hb:Below z0.heap.size z0 (z0.alloc (.cells #[.int .i64 t] 3)):=(Below.refl _ _).alloc (Nat.le_refl _) _
           obtain ⟨z2,hw9⟩:∃ w',w'=z0.alloc (.cells #[.int .i64 t] 3):=⟨_,rfl⟩
           obtain ⟨g3,hg9⟩:∃ x,x=z0.heap.size:=⟨_,rfl⟩
           rw [← hw9,← hg9] at HLK
           rw [← hw9] at hb
           rw [← hw9] at hHeld ⊢
           rw [← hg9]
           have HLO:=Lib.hid (HLO.out.below hb)
           have HTC:=Lib.hid (HTC.out.trans (Tch.of_below hb))
           have HL3:=Lib.hid HLK.out.2
           have HM:=Lib.hid HLK.out.1
           clear hb hw9 hg9 HLK
           refine readyQ (rs:=[28,33]) (by kernel_rfl) (by simp) ?_
           refine (acQ rfl (fun K hK => ?_) (acQ rfl (fun K hK => ?_) nilQ))
           ·refine step_app _ (by rfl) stInts _ _ (by rfl) L _ s.N _ (by rfl) (HOW3.out _ _ HM.out rfl) (g3 + 1) _ 1 [.int .i64 t] (by rfl) HL3.out.sl (by simp [Value.oneCell',opC]) (by have:=HNB.out; omega) HM.out.ord.2.2 ?_
            intro v2 z3 hown2 hgr2 hat2 hbel2
            obtain ⟨B3,e39,hv2,_,_⟩:=(Sl.of_own hown2).form
            subst hv2
            have HAP:=Lib.hid (HM.out.app' (k:=5) (by omega) HRX.out.2.2.1 hown2 hgr2 hat2)
            have HLO:=Lib.hid (HLO.out.app (k:=5) (r:=⟨3,1,.slice B3 (s.N + 1) e39,s.N + 1,kvI s.fr s.N ++ [.int .i64 t]⟩) (by omega) (congrArg RowV.v HRX.out.2.2.1) HAP.out.2.1 rfl HAP.out.2.2)
            have HTC:=Lib.hid (HTC.out.trans (HAP.out.2.1.mono fun y hy e => .inr (.inr (HM.out.rows.lt ⟨5,by omega,(congrArg (fun x:RowV => x.v.ownBlock) HRX.out.2.2.1).trans e⟩).1)))
            have HM:=Lib.hid HAP.out.1
            clear HAP hown2 hgr2 hat2 hbel2
            refine hK.out _ _ ?_ (fun hHeld => ?_)
            ·(try dsimp only)
             exact fun _ => HSF.out _ _ HM.out HLO.out
            clear hK K
            (try simp only [Act.put,sqA,sqB,sqC])
            have hHeld:=hHeld (by kernel_rfl)
            refine readyQ (rs:=[33]) (by kernel_rfl) (by simp) ?_
            refine (acQ rfl (fun K hK => ?_) nilQ)
            go_simp
            refine hK.out _ _ ?_ (fun hHeld => ?_)
            ·(try dsimp only)
             exact fun _ => HSF.out _ _ (HM.out.lit #[.int .i64 (-1)] 3 1 rfl).1 (HLO.out.below ((Below.refl _ _).alloc (Nat.le_refl _) _))
            clear hK K
            (try simp only [Act.put,sqA,sqB,sqC])
            have hHeld:=hHeld (by kernel_rfl)
            have HLK:=Lib.hid (HM.out.lit #[.int .i64 (-1)] 3 1 rfl)
            have hb:Below z3.heap.size z3 (z3.alloc (.cells #[.int .i64 (-1)] 3)):=(Below.refl _ _).alloc (Nat.le_refl _) _
            obtain ⟨z4,hw9⟩:∃ w',w'=z3.alloc (.cells #[.int .i64 (-1)] 3):=⟨_,rfl⟩
            obtain ⟨g4,hg9⟩:∃ x,x=z3.heap.size:=⟨_,rfl⟩
            rw [← hw9,← hg9] at HLK
            rw [← hw9] at hb
            rw [← hw9] at hHeld ⊢
            rw [← hg9]
            have HLO:=Lib.hid (HLO.out.below hb)
            have HTC:=Lib.hid (HTC.out.trans (Tch.of_below hb))
            have HL4:=Lib.hid HLK.out.2
            have HM:=Lib.hid HLK.out.1
            clear hb hw9 hg9 HLK
            refine giveQ hHeld ?_
            refine giveQ HL4 ?_
            refine giveQ HTC ?_
            refine giveQ HLO ?_
            refine giveQ HM ?_
            exact K10 z4 g1 g2 g3 g4 B1 e19 B2 e29 B3 e39
           ·go_simp
            refine hK.out _ _ ?_ (fun hHeld => ?_)
            ·(try dsimp only)
             exact fun _ => HSF.out _ _ (HM.out.lit #[.int .i64 (-1)] 3 1 rfl).1 (HLO.out.below ((Below.refl _ _).alloc (Nat.le_refl _) _))
            clear hK K
            (try simp only [Act.put,sqA,sqB,sqC])
            have hHeld:=hHeld (by kernel_rfl)
            have HLK:=Lib.hid (HM.out.lit #[.int .i64 (-1)] 3 1 rfl)
            have hb:Below z2.heap.size z2 (z2.alloc (.cells #[.int .i64 (-1)] 3)):=(Below.refl _ _).alloc (Nat.le_refl _) _
            obtain ⟨z3,hw9⟩:∃ w',w'=z2.alloc (.cells #[.int .i64 (-1)] 3):=⟨_,rfl⟩
            obtain ⟨g4,hg9⟩:∃ x,x=z2.heap.size:=⟨_,rfl⟩
            rw [← hw9,← hg9] at HLK
            rw [← hw9] at hb
            rw [← hw9] at hHeld ⊢
            rw [← hg9]
            have HLO:=Lib.hid (HLO.out.below hb)
            have HTC:=Lib.hid (HTC.out.trans (Tch.of_below hb))
            have HL3:=Lib.hid (HL3.out.below hb)
            have HL4:=Lib.hid HLK.out.2
            have HM:=Lib.hid HLK.out.1
            clear hb hw9 hg9 HLK
            refine giveQ hHeld ?_
            refine giveQ HL4 ?_
            refine giveQ HL3 ?_
            refine giveQ HTC ?_
            refine giveQ HLO ?_
            refine giveQ HM ?_
            exact K9 z3 g1 g2 g3 g4 B1 e19 B2 e29
          ·go_simp
           refine hK.out _ _ ?_ (fun hHeld => ?_)
           ·(try dsimp only)
            exact fun _ => HSF.out _ _ (HM.out.lit #[.int .i64 (-1)] 3 1 rfl).1 (HLO.out.below ((Below.refl _ _).alloc (Nat.le_refl _) _))
           clear hK K
           (try simp only [Act.put,sqA,sqB,sqC])
           have hHeld:=hHeld (by kernel_rfl)
           have HLK:=Lib.hid (HM.out.lit #[.int .i64 (-1)] 3 1 rfl)
           have hb:Below z0.heap.size z0 (z0.alloc (.cells #[.int .i64 (-1)] 3)):=(Below.refl _ _).alloc (Nat.le_refl _) _
           obtain ⟨z2,hw9⟩:∃ w',w'=z0.alloc (.cells #[.int .i64 (-1)] 3):=⟨_,rfl⟩
           obtain ⟨g4,hg9⟩:∃ x,x=z0.heap.size:=⟨_,rfl⟩
           rw [← hw9,← hg9] at HLK
           rw [← hw9] at hb
           rw [← hw9] at hHeld ⊢
           rw [← hg9]
           have HLO:=Lib.hid (HLO.out.below hb)
           have HTC:=Lib.hid (HTC.out.trans (Tch.of_below hb))
           have HL4:=Lib.hid HLK.out.2
           have HM:=Lib.hid HLK.out.1
           clear hb hw9 hg9 HLK
           refine giveQ hHeld ?_
           refine giveQ HL4 ?_
           refine giveQ HTC ?_
           refine giveQ HLO ?_
           refine giveQ HM ?_
           exact K8 z2 g1 g2 g4 B1 e19 B2 e29
         ·go_simp
          refine hK.out _ _ ?_ (fun hHeld => ?_)
          ·(try dsimp only)
           exact fun _ => HSF.out _ _ (HM.out.lit #[.int .i64 (-1)] 3 1 rfl).1 (HLO.out.below ((Below.refl _ _).alloc (Nat.le_refl _) _))
          clear hK K
          (try simp only [Act.put,sqA,sqB,sqC])
          have hHeld:=hHeld (by kernel_rfl)
          have HLK:=Lib.hid (HM.out.lit #[.int .i64 (-1)] 3 1 rfl)
          have hb:Below z0.heap.size z0 (z0.alloc (.cells #[.int .i64 (-1)] 3)):=(Below.refl _ _).alloc (Nat.le_refl _) _
          obtain ⟨z1,hw9⟩:∃ w',w'=z0.alloc (.cells #[.int .i64 (-1)] 3):=⟨_,rfl⟩
          obtain ⟨g4,hg9⟩:∃ x,x=z0.heap.size:=⟨_,rfl⟩
          rw [← hw9,← hg9] at HLK
          rw [← hw9] at hb
          rw [← hw9] at hHeld ⊢
          rw [← hg9]
          have HLO:=Lib.hid (HLO.out.below hb)
          have HTC:=Lib.hid (HTC.out.trans (Tch.of_below hb))
          have HL4:=Lib.hid HLK.out.2
          have HM:=Lib.hid HLK.out.1
          clear hb hw9 hg9 HLK
          refine giveQ hHeld ?_
          refine giveQ HL4 ?_
          refine giveQ HTC ?_
          refine giveQ HLO ?_
          refine giveQ HM ?_
          exact K7 z1 g1 g2 g4 B1 e19 B2 e29
        ·go_simp
         refine hK.out _ _ ?_ (fun hHeld => ?_)
         ·(try dsimp only)
          exact fun _ => HSF.out _ _ (HM.out.lit #[.int .i64 (-1)] 3 1 rfl).1 (HLO.out.below ((Below.refl _ _).alloc (Nat.le_refl _) _))
         clear hK K
         (try simp only [Act.put,sqA,sqB,sqC])
         have hHeld:=hHeld (by kernel_rfl)
         have HLK:=Lib.hid (HM.out.lit #[.int .i64 (-1)] 3 1 rfl)
         have hb:Below zz.heap.size zz (zz.alloc (.cells #[.int .i64 (-1)] 3)):=(Below.refl _ _).alloc (Nat.le_refl _) _
         obtain ⟨z0,hw9⟩:∃ w',w'=zz.alloc (.cells #[.int .i64 (-1)] 3):=⟨_,rfl⟩
         obtain ⟨g4,hg9⟩:∃ x,x=zz.heap.size:=⟨_,rfl⟩
         rw [← hw9,← hg9] at HLK
         rw [← hw9] at hb
         rw [← hw9] at hHeld ⊢
         rw [← hg9]
         have HLO:=Lib.hid (HLO.out.below hb)
         have HTC:=Lib.hid (HTC.out.trans (Tch.of_below hb))
         have HL2:=Lib.hid (HL2.out.below hb)
         have HL4:=Lib.hid HLK.out.2
         have HM:=Lib.hid HLK.out.1
         clear hb hw9 hg9 HLK
         refine giveQ hHeld ?_
         refine giveQ HL4 ?_
         refine giveQ HL2 ?_
         refine giveQ HTC ?_
         refine giveQ HLO ?_
         refine giveQ HM ?_
         exact K6 z0 g1 g2 g4 B1 e19
      ·intro zz g1 g2 g4 B1 e19 HM HLO HTC HL2 HL4 hHeld
       refine readyQ (rs:=[17]) (by kernel_rfl) (by simp) ?_
       refine (acQ rfl (fun K hK => ?_) nilQ)
       refine step_app _ (by rfl) stOps7 _ _ (by rfl) L _ s.N _ (by rfl) (HOW2.out _ _ HM.out rfl) (g2 + 1) _ 1 (opC o) (by rfl) HL2.out.sl (by simp [Value.oneCell',opC]) (by have:=HNB.out; omega) HM.out.ord.2.2 ?_
       intro v2 z0 hown2 hgr2 hat2 hbel2
       obtain ⟨B2,e29,hv2,_,_⟩:=(Sl.of_own hown2).form
       subst hv2
       have HAP:=Lib.hid (HM.out.app' (k:=4) (by omega) HRX.out.2.1 hown2 hgr2 hat2)
       have HLO:=Lib.hid (HLO.out.app (k:=4) (r:=⟨106,7,.slice B2 (s.N + 1) e29,s.N + 1,opc ((List.range s.N).map s.op) ++ opC o⟩) (by omega) (congrArg RowV.v HRX.out.2.1) HAP.out.2.1 rfl HAP.out.2.2)
       have HTC:=Lib.hid (HTC.out.trans (HAP.out.2.1.mono fun y hy e => .inr (.inr (HM.out.rows.lt ⟨4,by omega,(congrArg (fun x:RowV => x.v.ownBlock) HRX.out.2.1).trans e⟩).1)))
       have HL4:=Lib.hid (HL4.out.app (k:=4) (r:=⟨106,7,.slice B2 (s.N + 1) e29,s.N + 1,opc ((List.range s.N).map s.op) ++ opC o⟩) (by omega) (congrArg RowV.v HRX.out.2.1) HAP.out.2.1 rfl HAP.out.2.2)
       have HM:=Lib.hid HAP.out.1
       clear HAP hown2 hgr2 hat2 hbel2
       refine hK.out _ _ ?_ (fun hHeld => ?_)
       ·(try dsimp only)
        exact fun _ => HSF.out _ _ HM.out HLO.out
       clear hK K
       (try simp only [Act.put,sqA,sqB,sqC])
       have hHeld:=hHeld (by kernel_rfl)
       refine giveQ hHeld ?_
       refine giveQ HL4 ?_
       refine giveQ HTC ?_
       refine giveQ HLO ?_
       refine giveQ HM ?_
       exact K7 z0 g1 g2 g4 B1 e19 B2 e29
     ·intro zz g1 g2 g4 B1 e19 B2 e29 HM HLO HTC HL4 hHeld
      refine readyQ (rs:=[26]) (by kernel_rfl) (by simp) ?_
      refine (acQ rfl (fun K hK => ?_) nilQ)
      go_simp
      refine (mem_Time HM.out.acts.fd.mem).mono ?_
      rintro e w9 ⟨rfl,rfl⟩
      rw [← HTT.out]
      refine hK.out _ _ ?_ (fun hHeld => ?_)
      ·(try dsimp only)
       exact fun _ => hHeld
      clear hK K
      (try simp only [Act.put,sqA,sqB,sqC])
      have hHeld:=hHeld (by kernel_rfl)
      refine giveQ hHeld ?_
      refine giveQ HL4 ?_
      refine giveQ HTC ?_
      refine giveQ HLO ?_
      refine giveQ HM ?_
      exact K8 zz g1 g2 g4 B1 e19 B2 e29
    ·intro zz g1 g2 g4 B1 e19 B2 e29 HM HLO HTC HL4 hHeld
     refine readyQ (rs:=[27]) (by kernel_rfl) (by simp) ?_
     refine (acQ rfl (fun K hK => ?_) nilQ)
     go_simp
     refine hK.out _ _ ?_ (fun hHeld => ?_)
     ·(try dsimp only)
      exact fun _ => HSF.out _ _ (HM.out.lit #[.int .i64 t] 3 1 rfl).1 (HLO.out.below ((Below.refl _ _).alloc (Nat.le_refl _) _))
     clear hK K
     (try simp only [Act.put,sqA,sqB,sqC])
     have hHeld:=hHeld (by kernel_rfl)
     have HLK:=Lib.hid (HM.out.lit #[.int .i64 t] 3 1 rfl)
     have hb:Below zz.heap.size zz (zz.alloc (.cells #[.int .i64 t] 3)):=(Below.refl _ _).alloc (Nat.le_refl _) _
     obtain ⟨z0,hw9⟩:∃ w',w'=zz.alloc (.cells #[.int .i64 t] 3):=⟨_,rfl⟩
     obtain ⟨g3,hg9⟩:∃ x,x=zz.heap.size:=⟨_,rfl⟩
     rw [← hw9,← hg9] at HLK
     rw [← hw9] at hb
     rw [← hw9] at hHeld ⊢
     rw [← hg9]
     have HLO:=Lib.hid (HLO.out.below hb)
     have HTC:=Lib.hid (HTC.out.trans (Tch.of_below hb))
     have HL4:=Lib.hid (HL4.out.below hb)
     have HL3:=Lib.hid HLK.out.2
     have HM:=Lib.hid HLK.out.1
     clear hb hw9 hg9 HLK
     refine giveQ hHeld ?_
     refine giveQ HL4 ?_
     refine giveQ HL3 ?_
     refine giveQ HTC ?_
     refine giveQ HLO ?_
     refine giveQ HM ?_
     exact K9 z0 g1 g2 g3 g4 B1 e19 B2 e29
   ·intro zz g1 g2 g3 g4 B1 e19 B2 e29 HM HLO HTC HL3 HL4 hHeld
    refine readyQ (rs:=[28]) (by kernel_rfl) (by simp) ?_
    refine (acQ rfl (fun K hK => ?_) nilQ)
    refine step_app _ (by rfl) stInts _ _ (by rfl) L _ s.N _ (by rfl) (HOW3.out _ _ HM.out rfl) (g3 + 1) _ 1 [.int .i64 t] (by rfl) HL3.out.sl (by simp [Value.oneCell',opC]) (by have:=HNB.out; omega) HM.out.ord.2.2 ?_
    intro v2 z0 hown2 hgr2 hat2 hbel2
    obtain ⟨B3,e39,hv2,_,_⟩:=(Sl.of_own hown2).form
    subst hv2
    have HAP:=Lib.hid (HM.out.app' (k:=5) (by omega) HRX.out.2.2.1 hown2 hgr2 hat2)
    have HLO:=Lib.hid (HLO.out.app (k:=5) (r:=⟨3,1,.slice B3 (s.N + 1) e39,s.N + 1,kvI s.fr s.N ++ [.int .i64 t]⟩) (by omega) (congrArg RowV.v HRX.out.2.2.1) HAP.out.2.1 rfl HAP.out.2.2)
    have HTC:=Lib.hid (HTC.out.trans (HAP.out.2.1.mono fun y hy e => .inr (.inr (HM.out.rows.lt ⟨5,by omega,(congrArg (fun x:RowV => x.v.ownBlock) HRX.out.2.2.1).trans e⟩).1)))
    have HL4:=Lib.hid (HL4.out.app (k:=5) (r:=⟨3,1,.slice B3 (s.N + 1) e39,s.N + 1,kvI s.fr s.N ++ [.int .i64 t]⟩) (by omega) (congrArg RowV.v HRX.out.2.2.1) HAP.out.2.1 rfl HAP.out.2.2)
    have HM:=Lib.hid HAP.out.1
    clear HAP hown2 hgr2 hat2 hbel2
    refine hK.out _ _ ?_ (fun hHeld => ?_)
    ·(try dsimp only)
     exact fun _ => HSF.out _ _ HM.out HLO.out
    clear hK K
    (try simp only [Act.put,sqA,sqB,sqC])
    have hHeld:=hHeld (by kernel_rfl)
    refine giveQ hHeld ?_
    refine giveQ HL4 ?_
    refine giveQ HTC ?_
    refine giveQ HLO ?_
    refine giveQ HM ?_
    exact K10 z0 g1 g2 g3 g4 B1 e19 B2 e29 B3 e39
  ·intro zz g1 g2 g3 g4 B1 e19 B2 e29 B3 e39 HM HLO HTC HL4 hHeld
   refine readyQ (rs:=[34]) (by kernel_rfl) (by simp) ?_
   refine (acQ rfl (fun K hK => ?_) nilQ)
   refine step_app _ (by rfl) stInts _ _ (by rfl) L _ s.N _ (by rfl) (HOW4.out _ _ HM.out rfl) (g4 + 1) _ 1 [.int .i64 (-1)] (by rfl) HL4.out.sl (by simp [Value.oneCell',opC]) (by have:=HNB.out; omega) HM.out.ord.2.2 ?_
   intro v2 z0 hown2 hgr2 hat2 hbel2
   obtain ⟨B4,e49,hv2,_,_⟩:=(Sl.of_own hown2).form
   subst hv2
   have HAP:=Lib.hid (HM.out.app' (k:=6) (by omega) HRX.out.2.2.2 hown2 hgr2 hat2)
   have HLO:=Lib.hid (HLO.out.app (k:=6) (r:=⟨3,1,.slice B4 (s.N + 1) e49,s.N + 1,kvI s.tt s.N ++ [.int .i64 (-1)]⟩) (by omega) (congrArg RowV.v HRX.out.2.2.2) HAP.out.2.1 rfl HAP.out.2.2)
   have HTC:=Lib.hid (HTC.out.trans (HAP.out.2.1.mono fun y hy e => .inr (.inr (HM.out.rows.lt ⟨6,by omega,(congrArg (fun x:RowV => x.v.ownBlock) HRX.out.2.2.2).trans e⟩).1)))
   have HM:=Lib.hid HAP.out.1
   clear HAP hown2 hgr2 hat2 hbel2
   refine hK.out _ _ ?_ (fun hHeld => ?_)
   ·(try dsimp only)
    exact fun _ => HSF.out _ _ HM.out HLO.out
   clear hK K
   (try simp only [Act.put,sqA,sqB,sqC])
   have hHeld:=hHeld (by kernel_rfl)
   refine tkQ 35 [36] rfl ?_
   refine tkQ 36 [] rfl ?_
   refine readyQ (rs:=[37]) (by kernel_rfl) (by simp) ?_
   refine (acQ rfl (fun K hK => ?_) nilQ)
   have xr:z0.cell? ⟨rb,9,none⟩=some (V 3):=HM.out.cell (i:=9) (by omega)
   have fr9:=HM.out.row.frozen
   go_simp
   refine hK.out _ _ ?_ (fun hHeld => ?_)
   ·(try dsimp only)
    intro h9; exact absurd h9 (by decide)
   clear hK K
   (try simp only [Act.put,sqA,sqB,sqC])
   clear hHeld
   have HM:=Lib.hid (HM.out.setV (k:=3) (by omega) (.slice B1 (s.N + 1) e19))
   have HTC:=Lib.hid (show Tch (RunD lo rb L) w (z0.setCell ⟨rb,6 + 3,none⟩ (.slice B1 (s.N + 1) e19)) from HTC.out.setCell (.inr (.inl rfl)) _)
   obtain ⟨z1,hw9⟩:∃ w',w'=z0.setCell ⟨rb,6 + 3,none⟩ (.slice B1 (s.N + 1) e19):=⟨_,rfl⟩
   rw [← hw9] at HM HTC
   rw [show z0.setCell ⟨rb,9,none⟩ (.slice B1 (s.N + 1) e19)=z1 from hw9.symm]
   clear hw9 xr fr9
   refine readyQ (rs:=[38]) (by kernel_rfl) (by simp) ?_
   refine (acQ rfl (fun K hK => ?_) nilQ)
   go_simp
   refine hK.out _ _ ?_ (fun hHeld => ?_)
   ·(try dsimp only)
    intro h9; exact absurd h9 (by decide)
   clear hK K
   (try simp only [Act.put,sqA,sqB,sqC])
   clear hHeld
   refine readyQ (rs:=[39]) (by kernel_rfl) (by simp) ?_
   refine (acQ rfl (fun K hK => ?_) nilQ)
   go_simp
   refine hK.out _ _ ?_ (fun hHeld => ?_)
   ·(try dsimp only)
    intro h9; exact absurd h9 (by decide)
   clear hK K
   (try simp only [Act.put,sqA,sqB,sqC])
   clear hHeld
   refine readyQ (rs:=[40]) (by kernel_rfl) (by simp) ?_
   refine (acQ rfl (fun K hK => ?_) nilQ)
   have xr:z1.cell? ⟨rb,10,none⟩=some (V 4):=HM.out.cell (i:=10) (by omega)
   have fr9:=HM.out.row.frozen
   go_simp
   refine hK.out _ _ ?_ (fun hHeld => ?_)
   ·(try dsimp only)
    intro h9; exact absurd h9 (by decide)
   clear hK K
   (try simp only [Act.put,sqA,sqB,sqC])
   clear hHeld
   have HM:=Lib.hid (HM.out.setV (k:=4) (by omega) (.slice B2 (s.N + 1) e29))
   have HTC:=Lib.hid (show Tch (RunD lo rb L) w (z1.setCell ⟨rb,6 + 4,none⟩ (.slice B2 (s.N + 1) e29)) from HTC.out.setCell (.inr (.inl rfl)) _)
   obtain ⟨z4,hw9⟩:∃ w',w'=z1.setCell ⟨rb,6 + 4,none⟩ (.slice B2 (s.N + 1) e29):=⟨_,rfl⟩
   rw [← hw9] at HM HTC
   rw [show z1.setCell ⟨rb,10,none⟩ (.slice B2 (s.N + 1) e29)=z4 from hw9.symm]
   clear hw9 xr fr9
   refine readyQ (rs:=[41]) (by kernel_rfl) (by simp) ?_
   refine (acQ rfl (fun K hK => ?_) nilQ)
   go_simp
   refine hK.out _ _ ?_ (fun hHeld => ?_)
   ·(try dsimp only)
    intro h9; exact absurd h9 (by decide)
   clear hK K
   (try simp only [Act.put,sqA,sqB,sqC])
   clear hHeld
   refine readyQ (rs:=[42]) (by kernel_rfl) (by simp) ?_
   refine (acQ rfl (fun K hK => ?_) nilQ)
   go_simp
   refine hK.out _ _ ?_ (fun hHeld => ?_)
   ·(try dsimp only)
    intro h9; exact absurd h9 (by decide)
   clear hK K
   (try simp only [Act.put,sqA,sqB,sqC])
   clear hHeld
   refine readyQ (rs:=[43]) (by kernel_rfl) (by simp) ?_
   refine (acQ rfl (fun K hK => ?_) nilQ)
   have xr:z4.cell? ⟨rb,11,none⟩=some (V 5):=HM.out.cell (i:=11) (by omega)
   have fr9:=HM.out.row.frozen
   go_simp
   refine hK.out _ _ ?_ (fun hHeld => ?_)
   ·(try dsimp only)
    intro h9; exact absurd h9 (by decide)
   clear hK K
   (try simp only [Act.put,sqA,sqB,sqC])
   clear hHeld
   have HM:=Lib.hid (HM.out.setV (k:=5) (by omega) (.slice B3 (s.N + 1) e39))
   have HTC:=Lib.hid (show Tch (RunD lo rb L) w (z4.setCell ⟨rb,6 + 5,none⟩ (.slice B3 (s.N + 1) e39)) from HTC.out.setCell (.inr (.inl rfl)) _)
   obtain ⟨z7,hw9⟩:∃ w',w'=z4.setCell ⟨rb,6 + 5,none⟩ (.slice B3 (s.N + 1) e39):=⟨_,rfl⟩
   rw [← hw9] at HM HTC
   rw [show z4.setCell ⟨rb,11,none⟩ (.slice B3 (s.N + 1) e39)=z7 from hw9.symm]
   clear hw9 xr fr9
   refine readyQ (rs:=[44]) (by kernel_rfl) (by simp) ?_
   refine (acQ rfl (fun K hK => ?_) nilQ)
   go_simp
   refine hK.out _ _ ?_ (fun hHeld => ?_)
   ·(try dsimp only)
    intro h9; exact absurd h9 (by decide)
   clear hK K
   (try simp only [Act.put,sqA,sqB,sqC])
   clear hHeld
   refine readyQ (rs:=[45]) (by kernel_rfl) (by simp) ?_
   refine (acQ rfl (fun K hK => ?_) nilQ)
   go_simp
   refine hK.out _ _ ?_ (fun hHeld => ?_)
   ·(try dsimp only)
    intro h9; exact absurd h9 (by decide)
   clear hK K
   (try simp only [Act.put,sqA,sqB,sqC])
   clear hHeld
   refine readyQ (rs:=[46]) (by kernel_rfl) (by simp) ?_
   refine (acQ rfl (fun K hK => ?_) nilQ)
   have xr:z7.cell? ⟨rb,12,none⟩=some (V 6):=HM.out.cell (i:=12) (by omega)
   have fr9:=HM.out.row.frozen
   go_simp
   refine hK.out _ _ ?_ (fun hHeld => ?_)
   ·(try dsimp only)
    intro h9; exact absurd h9 (by decide)
   clear hK K
   (try simp only [Act.put,sqA,sqB,sqC])
   clear hHeld
   have HM:=Lib.hid (HM.out.setV (k:=6) (by omega) (.slice B4 (s.N + 1) e49))
   have HTC:=Lib.hid (show Tch (RunD lo rb L) w (z7.setCell ⟨rb,6 + 6,none⟩ (.slice B4 (s.N + 1) e49)) from HTC.out.setCell (.inr (.inl rfl)) _)
   obtain ⟨z10,hw9⟩:∃ w',w'=z7.setCell ⟨rb,6 + 6,none⟩ (.slice B4 (s.N + 1) e49):=⟨_,rfl⟩
   rw [← hw9] at HM HTC
   rw [show z7.setCell ⟨rb,12,none⟩ (.slice B4 (s.N + 1) e49)=z10 from hw9.symm]
   clear hw9 xr fr9
   refine dnQ ?_
   go_wp2
   go_meet
   case rel => exact ⟨rfl,_,EX,_,Lib.hid (HM.out.congr (fun k hk => by rw [begun_rows F p o ab9 _ _ _ _ k hk,HE.out.1,HE.out.2.1,← HA1.out,← HTT.out]; try rfl) (fun _ _ => rfl)),HTC⟩
 case rest =>
  obtain ⟨rfl,abX,EX,VX,HMX,HTX⟩:=hcut
  obtain ⟨s1,hs1⟩:∃ s1,s1=begR F s p o:=⟨_,rfl⟩
  have hM:RunM wc lo b fb rb L F s1.m s1.N s1.A abX EX g (7 + P) (rowsS P ls lv abX s1 VX) VX:=by rw [hs1]; exact HMX.out
  have hK:RunK F P ls s1 g:=by rw [hs1]; exact HK1.out
  obtain ⟨i,hiN⟩:∃ i,i=s.N:=⟨_,rfl⟩
  have hi:i < s1.N:=by rw [hs1,hiN]; exact Nat.lt_succ_self s.N
  have hnw:s1.nw p=(i:Int):=by rw [hs1,hiN]; exact if_pos rfl
  have hp:=HP.out.1
  have hP:=HP.out.2
  have hl:=HL.out
  have ht:s1.m.t≤4611686018427387000:=by rw [hs1]; exact HT.out
  have HNW0:=HNW
  have HS1:=Lib.hid (And.intro hs1 hiN)
  clear HMX HTT HRX HLO HMw8 HF HA HN HA1 HOF HQL HNB HR HE
  obtain ⟨hst,hwho⟩:(s1.A i).st ≠ 0∧(s1.A i).who=(p:Int):=by
   rcases hK.nw p hp with e | ⟨j,h1,h2,h3,h4⟩
   ·omega
   ·have:j=i:=by omega
    subst this
    exact ⟨h3,h4⟩
  obtain ⟨lg',g9,hK9⟩:=hK.go hp hi hnw (by omega)
  obtain ⟨q2,c2,e2,k2,m2,_,_⟩:=(hM.slice (k:=2) (by omega) rfl).2 (by omega)
  obtain ⟨q3,c3,e3,k3,m3,_,_⟩:=(hM.slice (k:=3) (by omega) rfl).2 (by omega)
  obtain ⟨q6,c6,e6,k6,m6,_,_⟩:=(hM.slice (k:=6) (by omega) rfl).2 (by omega)
  unfold maxLen at m2 m3 m6
  have hr2:rowsS P ls lv abX s1 VX 2=⟨3,1,.slice (some ⟨q2,0,none⟩) P c2,P,kvI s1.nw P⟩:=by rw [← e2]; rfl
  have hr3:rowsS P ls lv abX s1 VX 3=⟨42,1,.slice (some ⟨q3,0,none⟩) s1.N c3,s1.N,ptI abX s1.N⟩:=by rw [← e3]; rfl
  have hr6:rowsS P ls lv abX s1 VX 6=⟨3,1,.slice (some ⟨q6,0,none⟩) s1.N c6,s1.N,kvI s1.tt s1.N⟩:=by rw [← e6]; rfl
  have hNb:s1.N≤100000:=by
   have h9:=sumN_le (f:=s1.at_) (c:=12) P fun q hq => Nat.le_trans (hK.at_ q hq) (hl q hq).1
   rw [← hK.N] at h9
   have:P * 12≤6 * 12:=Nat.mul_le_mul_right _ hP
   omega
  have a2:=((hM.at_ (by omega) hr2).1 p (by omega)).trans (kvI_at _ hp)
  have a3:=((hM.at_ (by omega) hr3).1 i (by omega)).trans (ptI_at _ hi)
  rw [hnw] at a2
  have r0:wc.cell? ⟨rb,0,none⟩=some (.pointer (some ⟨b,0,none⟩)):=hM.cell (i:=0) (by omega)
  have r8:wc.cell? ⟨rb,8,none⟩=some (VX 2):=hM.cell (i:=8) (by omega)
  have r9:wc.cell? ⟨rb,9,none⟩=some (VX 3):=hM.cell (i:=9) (by omega)
  rw [e2] at r8
  rw [e3] at r9
  have HTM:=Lib.hid (mem_Time hM.acts.fd.mem)
  have HST:=Lib.hid (acts_Step hM.acts hi hM.lo3.2 (by have:=hM.ord; omega) hM.ord.2.2 ⟨hK.run.t0,by omega⟩ hst)
  have HGO:=Lib.hid fun w2 g' (ht:Tch (FdD lo (EX i)) wc w2) (ha:ActsAt w2 lo b fb L F (stepF F s1.m (s1.A i)).1 s1.N (updA s1.A i (stepF F s1.m (s1.A i)).2) abX (updE EX i (growE (EX i) wc w2)) g') => (hM.acted hi ht ha).regs hK9.run.inv
  have HTD:=Lib.hid fun w2 (ht:Tch (FdD lo (EX i)) wc w2) => show Tch (RunD lo rb L) wc w2 from ht.mono fun k _ hk => by
   rcases hk with hk | hk
   ·exact .inl hk
   ·exact .inr (.inr (hM.acts.low hi hk).1)
  have HQL:Hid (L≤q2∧L≤q6):=⟨(hM.at_ (by omega) hr2).2.2.1,(hM.at_ (by omega) hr6).2.2.1⟩
  have g0:(0:Int)≤(p:Int):=Int.natCast_nonneg _
  have g1:(p:Int) < (P:Int):=by omega
  have i0:(0:Int)≤(i:Int):=Int.natCast_nonneg _
  have i1:(i:Int) < (s1.N:Int):=by omega
  have i3:decide ((i:Int) < 0)=false:=decide_eq_false (by omega)
  have hva9:(stepF F s1.m (s1.A i)).2.vain≤F.tr:=step_vain hK.run.inv hi (hK.va i hi)
  have htr9:F.tr≤8:=hM.acts.fd.fits.tr.2
  obtain ⟨t,htt⟩:∃ t,t=s1.m.t:=⟨_,rfl⟩
  rw [← htt] at HTM
  have hx1:wrap64 (t + 1)=t + 1:=by rw [htt]; exact IntWalk.wrap64_in _ (by have:=hK.run.t0; omega)
  have hx2:IntKind.i64.wrap (t + 1)=t + 1:=by rw [htt]; exact IntWalk.i64_in _ (by clear hx1; have:=hK.run.t0; omega)
  have ht9:decide (t + 1 > t + 1)=false:=decide_eq_false (by omega)
  have ht8:decide (t + 1 < t + 1)=false:=decide_eq_false (by omega)
  obtain ⟨va,hvae⟩:∃ va,va=(stepF F s1.m (s1.A i)).2.vain:=⟨_,rfl⟩
  have hv8:decide ((va:Int) > (F.tr:Int))=false:=decide_eq_false (by rw [hvae]; omega)
  have hv7:decide ((F.tr:Int) < (va:Int))=false:=decide_eq_false (by rw [hvae]; omega)
  have hv6:decide (F.tr < va)=false:=decide_eq_false (by rw [hvae]; omega)
  have HI:=Lib.hid hi
  have HNW:=Lib.hid hnw
  have HP:=Lib.hid hp
  have HE:=Lib.hid (And.intro e2 (And.intro e3 e6))
  have HR2:=Lib.hid hr2
  have HR3:=Lib.hid hr3
  have HR6:=Lib.hid hr6
  have HVA:=Lib.hid hvae
  have HTT:=Lib.hid htt
  have HK9:=Lib.hid hK9
  clear e2 e3 e6 hr2 hr3 hr6 hvae htt hK9 hst hwho hva9 htr9 hl ht hM hK hi hnw hp hP hs1 hiN
  go_wp2_with fail
  refine (HTM.out).mono ?_
  rintro e w9 ⟨rfl,rfl⟩
  go_wp2_with fail
  refine (HST.out).mono ?_
  rintro e w2 ⟨rfl,htc,d5,hsame,g',heff,hacts⟩
  have HMw2:=Lib.hid (HGO.out w2 g' htc hacts)
  have HTC:=Lib.hid (HTD.out w2 htc)
  have HD5:=Lib.hid (d5.trans (by rw [← HTT.out]))
  clear htc d5 hsame heff hacts HST HTM HGO HTD r0 r8 r9 a2 a3
  by_cases h0:(stepF F s1.m (s1.A i)).2.st=0
  ·have HZ0:=Lib.hid h0
   rw [decide_eq_true h0]
   clear h0
   have r0:w2.cell? ⟨rb,0,none⟩=some (.pointer (some ⟨b,0,none⟩)):=HMw2.out.cell (i:=0) (by omega)
   have r5:w2.cell? ⟨rb,5,none⟩=some (.int .i64 (F.tr:Nat)):=HMw2.out.cell (i:=5) (by omega)
   have r8:w2.cell? ⟨rb,8,none⟩=some (VX 2):=HMw2.out.cell (i:=8) (by omega)
   have r9:w2.cell? ⟨rb,9,none⟩=some (VX 3):=HMw2.out.cell (i:=9) (by omega)
   have r12:w2.cell? ⟨rb,12,none⟩=some (VX 6):=HMw2.out.cell (i:=12) (by omega)
   rw [HE.out.1] at r8
   rw [HE.out.2.1] at r9
   rw [HE.out.2.2] at r12
   have a3:=((HMw2.out.at_ (by omega) HR3.out).1 i (by have:=HI.out; omega)).trans (ptI_at _ HI.out)
   go_wp2_with fail
   refine wp_region_held_drew (S:=fun w' => w'.cell? ⟨rb,0,none⟩=some (.pointer (some ⟨b,0,none⟩))∧w'.cell? ⟨rb,5,none⟩=some (.int .i64 (F.tr:Nat))∧w'.cell? ⟨rb,9,none⟩=some (.slice (some ⟨q3,0,none⟩) s1.N c3)∧w'.cell? ⟨q3,i,none⟩=some (.pointer (some ⟨abX i,0,none⟩))) (by kernel_rfl) ?_ (fun hHeld => ?_)
   ·exact ⟨r0,r5,r9,a3⟩
   obtain ⟨w3,hw9⟩:∃ w',w'=w2.drew:=⟨_,rfl⟩
   have hb:Below w2.heap.size w2 w3:=by rw [hw9]; exact (Below.refl _ _).drew
   rw [← hw9] at hHeld ⊢
   clear hw9
   have HMw3:=Lib.hid (HMw2.out.below hb)
   have HTC:=Lib.hid (HTC.out.trans (Tch.of_below hb))
   have HTM3:=Lib.hid (mem_Time HMw3.out.acts.fd.mem)
   have HOV3:=Lib.hid (acts_Over HMw3.out.acts HI.out (z:=true) (by rw [updA_same]; exact decide_eq_true HZ0.out))
   have HTR3:=Lib.hid (acts_Tries HMw3.out.acts HI.out)
   rw [updA_same,← HVA.out] at HTR3
   rw [HD5.out] at HTM3
   clear hb r0 r5 r8 r9 r12 a3
   refine tkR 0 rfl ?_
   refine tkR 1 rfl ?_
   refine tkR 2 rfl ?_
   refine tkR 3 rfl ?_
   refine tkR 5 rfl ?_
   refine tkR 6 rfl ?_
   refine clR 4 rfl fun K hK => ?_
   go_simp
   refine (HTM3.out).mono ?_
   rintro e w9 ⟨rfl,rfl⟩
   refine hK.out _ _ ?_ (fun hHeld => ?_)
   ·(try dsimp only)
    exact hHeld
   clear hK K
   refine tkR 7 rfl ?_
   refine tkR 8 rfl ?_
   refine tkR 9 rfl ?_
   refine tkR 10 rfl ?_
   refine tkR 11 rfl ?_
   refine tkR 12 rfl ?_
   refine tkR 13 rfl ?_
   refine tkR 14 rfl ?_
   refine tkR 15 rfl ?_
   refine tkR 16 rfl ?_
   refine clR 17 rfl fun K hK => ?_
   go_simp
   refine (HOV3.out).mono ?_
   rintro e w9 ⟨rfl,rfl⟩
   refine hK.out _ _ ?_ (fun hHeld => ?_)
   ·(try dsimp only)
    exact hHeld
   clear hK K
   refine tkR 18 rfl ?_
   refine tkR 19 rfl ?_
   refine tkR 20 rfl ?_
   refine tkR 21 rfl ?_
   refine tkR 22 rfl ?_
   refine tkR 23 rfl ?_
   refine tkR 24 rfl ?_
   refine tkR 25 rfl ?_
   refine tkR 26 rfl ?_
   refine tkR 27 rfl ?_
   refine tkR 29 rfl ?_
   refine tkR 30 rfl ?_
   refine tkR 31 rfl ?_
   refine tkR 32 rfl ?_
   refine clR 28 rfl fun K hK => ?_
   go_simp
   refine (HTR3.out).mono ?_
   rintro e w9 ⟨rfl,rfl⟩
   refine hK.out _ _ ?_ (fun hHeld => ?_)
   ·(try dsimp only)
    exact hHeld
   clear hK K
   refine tkR 33 rfl ?_
   refine tkR 34 rfl ?_
   refine wpAnyH_done (by kernel_rfl) ?_ _
   clear hHeld
   have r0:w3.cell? ⟨rb,0,none⟩=some (.pointer (some ⟨b,0,none⟩)):=HMw3.out.cell (i:=0) (by omega)
   have r5:w3.cell? ⟨rb,5,none⟩=some (.int .i64 (F.tr:Nat)):=HMw3.out.cell (i:=5) (by omega)
   have r8:w3.cell? ⟨rb,8,none⟩=some (VX 2):=HMw3.out.cell (i:=8) (by omega)
   have r9:w3.cell? ⟨rb,9,none⟩=some (VX 3):=HMw3.out.cell (i:=9) (by omega)
   have r12:w3.cell? ⟨rb,12,none⟩=some (VX 6):=HMw3.out.cell (i:=12) (by omega)
   rw [HE.out.1] at r8
   rw [HE.out.2.1] at r9
   rw [HE.out.2.2] at r12
   have a3:=((HMw3.out.at_ (by omega) HR3.out).1 i (by have:=HI.out; omega)).trans (ptI_at _ HI.out)
   go_wp2_with fail
   refine wp_region_held_drew (S:=fun w' => w'.cell? ⟨rb,0,none⟩=some (.pointer (some ⟨b,0,none⟩))∧w'.cell? ⟨rb,12,none⟩=some (.slice (some ⟨q6,0,none⟩) s1.N c6)) (by kernel_rfl) ?_ (fun hHeld => ?_)
   ·exact ⟨r0,r12⟩
   obtain ⟨w4,hw9⟩:∃ w',w'=w3.drew:=⟨_,rfl⟩
   have hb:Below w3.heap.size w3 w4:=by rw [hw9]; exact (Below.refl _ _).drew
   rw [← hw9] at hHeld ⊢
   clear hw9
   have HMw4:=Lib.hid (HMw3.out.below hb)
   have HTC:=Lib.hid (HTC.out.trans (Tch.of_below hb))
   have HTM4:=Lib.hid (mem_Time HMw4.out.acts.fd.mem)
   rw [HD5.out] at HTM4
   clear hb r0 r5 r8 r9 r12 a3
   have a6:=((HMw4.out.at_ (by omega) HR6.out).1 i (by have:=HI.out; omega)).trans (kvI_at _ HI.out)
   have f6:=(HMw4.out.at_ (by omega) HR6.out).2.1
   have HMw5:=Lib.hid (HMw4.out.set (by omega) HR6.out i (.int .i64 (t + 1)))
   refine tkR 0 rfl ?_
   refine tkR 1 rfl ?_
   refine tkR 2 rfl ?_
   refine tkR 3 rfl ?_
   refine tkR 4 rfl ?_
   refine tkR 5 rfl ?_
   refine tkR 6 rfl ?_
   refine tkR 7 rfl ?_
   refine tkR 8 rfl ?_
   refine clR 9 rfl fun K hK => ?_
   go_simp
   refine (HTM4.out).mono ?_
   rintro e w9 ⟨rfl,rfl⟩
   refine hK.out _ _ ?_ (fun hHeld => ?_)
   ·(try dsimp only)
    exact hHeld
   clear hK K
   refine tkR 10 rfl ?_
   refine clR 11 rfl fun K hK => ?_
   go_simp
   refine hK.out _ _ ?_ (fun hHeld => ?_)
   ·(try dsimp only)
    exact ⟨HMw5.out.cell (i:=0) (by omega),by rw [← HE.out.2.2]; exact HMw5.out.cell (i:=12) (by omega)⟩
   clear hK K
   (try simp only [Act.put,sqA,sqB,sqC])
   refine wpAnyH_done (by kernel_rfl) ?_ _
   clear hHeld a6 f6
   obtain ⟨w5,hw5⟩:∃ w',w'=w4.setCell ⟨q6,i,none⟩ (.int .i64 (t + 1)):=⟨_,rfl⟩
   rw [← hw5] at HMw5 ⊢
   have HTC5:Hid (Tch (RunD lo rb L) wc w5):=by rw [hw5]; exact HTC.out.setCell (.inr (.inr HQL.out.2)) _
   clear hw5
   have hr9:updV (rowsS P ls lv abX s1 VX) 6 ⟨3,1,.slice (some ⟨q6,0,none⟩) s1.N c6,s1.N,(kvI s1.tt s1.N).set i (.int .i64 (t + 1))⟩ 2=⟨3,1,.slice (some ⟨q2,0,none⟩) P c2,P,kvI s1.nw P⟩:=HR2.out
   have r8:w5.cell? ⟨rb,8,none⟩=some (VX 2):=HMw5.out.cell (i:=8) (by omega)
   rw [HE.out.1] at r8
   have a2:=((HMw5.out.at_ (by omega) hr9).1 p (by have:=HP.out; omega)).trans (kvI_at _ HP.out)
   have f2:=(HMw5.out.at_ (by omega) hr9).2.1
   have HMw6:=Lib.hid (HMw5.out.set (by omega) hr9 p (.int .i64 (-1)))
   clear hr9
   go_wp2
   go_ret
   refine ⟨true,goR F s1 p i lg',rfl,⟨g9,abX,_,VX,HMw6.out.congr (fun k hk => ?_) (fun _ _ => rfl),HK9.out⟩,HTX.out.trans (HTC5.out.setCell (.inr (.inr HQL.out.1)) _),.inr ⟨rfl,s1,i,lg',.inr ⟨o,HO.out,HOK.out,HS1.out.1,HS1.out.2,HNW0.out,HAT.out⟩,HI.out,rfl⟩⟩
   rw [over_rows F p i lg' HZ0.out k hk,HE.out.1,HE.out.2.2,← HTT.out]
  ·have HZ0:=Lib.hid h0
   rw [decide_eq_false h0]
   clear h0
   have r0:w2.cell? ⟨rb,0,none⟩=some (.pointer (some ⟨b,0,none⟩)):=HMw2.out.cell (i:=0) (by omega)
   have r5:w2.cell? ⟨rb,5,none⟩=some (.int .i64 (F.tr:Nat)):=HMw2.out.cell (i:=5) (by omega)
   have r8:w2.cell? ⟨rb,8,none⟩=some (VX 2):=HMw2.out.cell (i:=8) (by omega)
   have r9:w2.cell? ⟨rb,9,none⟩=some (VX 3):=HMw2.out.cell (i:=9) (by omega)
   have r12:w2.cell? ⟨rb,12,none⟩=some (VX 6):=HMw2.out.cell (i:=12) (by omega)
   rw [HE.out.1] at r8
   rw [HE.out.2.1] at r9
   rw [HE.out.2.2] at r12
   have a3:=((HMw2.out.at_ (by omega) HR3.out).1 i (by have:=HI.out; omega)).trans (ptI_at _ HI.out)
   go_wp2_with fail
   refine wp_region_held_drew (S:=fun w' => w'.cell? ⟨rb,0,none⟩=some (.pointer (some ⟨b,0,none⟩))∧w'.cell? ⟨rb,5,none⟩=some (.int .i64 (F.tr:Nat))∧w'.cell? ⟨rb,9,none⟩=some (.slice (some ⟨q3,0,none⟩) s1.N c3)∧w'.cell? ⟨q3,i,none⟩=some (.pointer (some ⟨abX i,0,none⟩))) (by kernel_rfl) ?_ (fun hHeld => ?_)
   ·exact ⟨r0,r5,r9,a3⟩
   obtain ⟨w3,hw9⟩:∃ w',w'=w2.drew:=⟨_,rfl⟩
   have hb:Below w2.heap.size w2 w3:=by rw [hw9]; exact (Below.refl _ _).drew
   rw [← hw9] at hHeld ⊢
   clear hw9
   have HMw3:=Lib.hid (HMw2.out.below hb)
   have HTC:=Lib.hid (HTC.out.trans (Tch.of_below hb))
   have HTM3:=Lib.hid (mem_Time HMw3.out.acts.fd.mem)
   have HOV3:=Lib.hid (acts_Over HMw3.out.acts HI.out (z:=false) (by rw [updA_same]; exact decide_eq_false HZ0.out))
   have HTR3:=Lib.hid (acts_Tries HMw3.out.acts HI.out)
   rw [updA_same,← HVA.out] at HTR3
   rw [HD5.out] at HTM3
   clear hb r0 r5 r8 r9 r12 a3
   refine tkR 0 rfl ?_
   refine tkR 1 rfl ?_
   refine tkR 2 rfl ?_
   refine tkR 3 rfl ?_
   refine tkR 5 rfl ?_
   refine tkR 6 rfl ?_
   refine clR 4 rfl fun K hK => ?_
   go_simp
   refine (HTM3.out).mono ?_
   rintro e w9 ⟨rfl,rfl⟩
   refine hK.out _ _ ?_ (fun hHeld => ?_)
   ·(try dsimp only)
    exact hHeld
   clear hK K
   refine tkR 7 rfl ?_
   refine tkR 8 rfl ?_
   refine tkR 9 rfl ?_
   refine tkR 10 rfl ?_
   refine tkR 11 rfl ?_
   refine tkR 12 rfl ?_
   refine tkR 13 rfl ?_
   refine tkR 14 rfl ?_
   refine tkR 15 rfl ?_
   refine tkR 16 rfl ?_
   refine clR 17 rfl fun K hK => ?_
   go_simp
   refine (HOV3.out).mono ?_
   rintro e w9 ⟨rfl,rfl⟩
   refine hK.out _ _ ?_ (fun hHeld => ?_)
   ·(try dsimp only)
    exact hHeld
   clear hK K
   refine tkR 18 rfl ?_
   refine tkR 19 rfl ?_
   refine tkR 20 rfl ?_
   refine tkR 21 rfl ?_
   refine tkR 22 rfl ?_
   refine tkR 23 rfl ?_
   refine tkR 24 rfl ?_
   refine tkR 25 rfl ?_
   refine tkR 26 rfl ?_
   refine tkR 27 rfl ?_
   refine tkR 29 rfl ?_
   refine tkR 30 rfl ?_
   refine tkR 31 rfl ?_
   refine tkR 32 rfl ?_
   refine clR 28 rfl fun K hK => ?_
   go_simp
   refine (HTR3.out).mono ?_
   rintro e w9 ⟨rfl,rfl⟩
   refine hK.out _ _ ?_ (fun hHeld => ?_)
   ·(try dsimp only)
    exact hHeld
   clear hK K
   refine tkR 33 rfl ?_
   refine tkR 34 rfl ?_
   refine wpAnyH_done (by kernel_rfl) ?_ _
   clear hHeld
   go_wp2
   go_ret
   exact ⟨true,goR F s1 p i lg',rfl,⟨g9,abX,_,VX,HMw3.out.congr (fun k hk => on_rows F p i lg' HZ0.out k) (fun _ _ => rfl),HK9.out⟩,HTX.out.trans (HTC.out),.inr ⟨rfl,s1,i,lg',.inr ⟨o,HO.out,HOK.out,HS1.out.1,HS1.out.2,HNW0.out,HAT.out⟩,HI.out,rfl⟩⟩
theorem law12_step (h:RunAt w lo b fb rb L F P ls lv s) (hP:P≤6) (hl:∀ p,p < P→(ls p).length≤12∧∀ o ∈ ls p,OpOk F o) (ht:s.m.t≤4611686018427387000) {p:Nat} (hp:p < P):Calls Try.prog 32 #[.pointer (some ⟨rb,0,none⟩),.int .i64 (p:Nat)] w (StepDid lo b fb rb L F P ls lv s p w):=by
 have h9:=h
 obtain ⟨g,ab,Es,V,hM,hK⟩:=h9
 rcases hK.nw p hp with hnw | ⟨i,_,hnw,_,_⟩
 ·rcases Nat.lt_or_ge (s.at_ p) (ls p).length with hat | hat
  ·exact law12_stepB h hP hl ht hp hnw hat
  ·exact law12_stepA h hP hl ht hp hnw (Nat.le_antisymm (hK.at_ p hp) hat)
 ·exact law12_stepC h hP hl ht hp hnw
end
end Go.Proofs.Ythloabdfkakehaa
