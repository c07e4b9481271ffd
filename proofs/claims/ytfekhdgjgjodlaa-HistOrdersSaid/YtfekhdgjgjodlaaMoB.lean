/-
  Words and contracts that a statement's proof rests on (MoB). No statement is proved here.
-/
import Derived.Test.YtfekhdgjgjodlaaVlanH
set_option linter.unusedVariables false
set_option linter.unusedSimpArgs false
namespace Go.Proofs.Ytfekhdgjgjodlaa
open Go.RowKit
def planV (P:Int) (vr vv:Value) (S B n t r nm sh:Int):Value:=.agg #[.int .i64 P,vr,vv,.int .i64 S,.int .i64 B,.int .i64 n,.int .i64 t,.int .i64 r,.int .u32 nm,.int .u32 sh]
def planK (c:Nat) (same good size:Bool):Nat:=if c ≠ 0 then c else if (same && good && size)=true then 0 else 1
theorem planK_c {c:Nat} {x y z:Bool} (h:c ≠ 0):planK c x y z=c:=if_pos h
theorem planK_1 {x y z:Bool} (h:(x && y && z)=false):planK 0 x y z=1:=by unfold planK; rw [if_neg (by omega),h]; rfl
set_option maxRecDepth 20000 in
set_option maxHeartbeats 1600000 in
theorem model_Check {w:World} {Bo nr nv m:Nat} {vr vv:Value} {lr:List Rl} {lv:List Vl} (hr:Sl w Bo 2 vr nr (rlc lr)) (hv:Sl w Bo 3 vv nv (vlc lv)) (hok:∀ x ∈ lv,x.ok) (hB:Bo≤w.heap.size) (hf:FirstBad lr nr m) (P S B n t r nm sh:Int) :
  Calls Try.prog 25 #[planV P vr vv S B n t r nm sh] w (Says (.int .i64 (planK (checkN lv P nv) (decide ((nr:Int)=P)) (!decide (m < nr)) (rightS S B n && (withinI t 8 && withinI r 64)):Nat)) w):=by
 obtain ⟨Ar,cr,rfl,hcr,hcm⟩:=hr.form
 unfold maxLen at hcm
 have HVC:=Lib.hid fun w' (hb:Below w.heap.size w w') => vlan_Check hok (hv.below (hb.mono hB)) (Nat.le_trans hB hb.size) P
 have HCR:=Lib.hid fun w' (hb:Below w.heap.size w w') => contains_rules (hr.below (hb.mono hB)) (Nat.le_trans hB hb.size) hf
 have HBR:=Lib.hid fun W => book_Right S B n W
 have HT:=Lib.hid fun W => model_within t 8 W
 have HR:=Lib.hid fun W => model_within r 64 W
 clear hr hv hok hf
 obtain ⟨c,hc⟩:∃ c,c=checkN lv P nv:=⟨_,rfl⟩
 obtain ⟨zb,hzb⟩:∃ z,z=decide (m < nr):=⟨_,rfl⟩
 obtain ⟨zs,hzs⟩:∃ z,z=rightS S B n:=⟨_,rfl⟩
 obtain ⟨zt,hzt⟩:∃ z,z=withinI t 8:=⟨_,rfl⟩
 obtain ⟨zr,hzr⟩:∃ z,z=withinI r 64:=⟨_,rfl⟩
 rw [← hc] at HVC
 rw [← hzb] at HCR
 rw [← hzs] at HBR
 rw [← hzt] at HT
 rw [← hzr] at HR
 rw [← hc,← hzb,← hzs,← hzt,← hzr]
 clear hc hzb hzs hzt hzr
 unfold planV
 obtain ⟨X,hX⟩:∃ X:Nat,X=planK c (decide ((nr:Int)=P)) (!zb) (zs && (zt && zr)):=⟨_,rfl⟩
 rw [← hX]
 have HX:=Lib.hid hX
 clear hX
 obtain ⟨s,hs0⟩:∃ s,s=w.heap.size:=⟨_,rfl⟩
 have HBOX:Hid (∀ w',Below (w.heap.size + 1) (w.alloc (.cells #[.int .i64 P,.slice Ar nr cr,vv,.int .i64 S,.int .i64 B,.int .i64 n,.int .i64 t,.int .i64 r,.int .u32 nm,.int .u32 sh] 54)) w'→w'.cell? ⟨w.heap.size,0,none⟩=some (.int .i64 P)∧w'.cell? ⟨w.heap.size,1,none⟩=some (.slice Ar nr cr)∧w'.cell? ⟨w.heap.size,2,none⟩=some vv∧w'.cell? ⟨w.heap.size,3,none⟩=some (.int .i64 S)∧w'.cell? ⟨w.heap.size,4,none⟩=some (.int .i64 B)∧w'.cell? ⟨w.heap.size,5,none⟩=some (.int .i64 n)∧w'.cell? ⟨w.heap.size,6,none⟩=some (.int .i64 t)∧w'.cell? ⟨w.heap.size,7,none⟩=some (.int .i64 r)):=fun w' hb => by
  refine ⟨?_,?_,?_,?_,?_,?_,?_,?_⟩ <;>
  ·rw [hb.cell (by show w.heap.size < _; omega)]
   simp [go_sem]
 have HLOW:Hid (∀ w',Below (w.heap.size + 1) (w.alloc (.cells #[.int .i64 P,.slice Ar nr cr,vv,.int .i64 S,.int .i64 B,.int .i64 n,.int .i64 t,.int .i64 r,.int .u32 nm,.int .u32 sh] 54)) w'→Below w.heap.size w w'):=fun w' hb => ((Below.refl w.heap.size w).alloc (Nat.le_refl _) _).trans (hb.mono (by omega))
 have HUP:Hid (∀ w' w'',Below (w.heap.size + 1) (w.alloc (.cells #[.int .i64 P,.slice Ar nr cr,vv,.int .i64 S,.int .i64 B,.int .i64 n,.int .i64 t,.int .i64 r,.int .u32 nm,.int .u32 sh] 54)) w'→Below w'.heap.size w' w''→Below (w.heap.size + 1) (w.alloc (.cells #[.int .i64 P,.slice Ar nr cr,vv,.int .i64 S,.int .i64 B,.int .i64 n,.int .i64 t,.int .i64 r,.int .u32 nm,.int .u32 sh] 54)) w''):=fun w' w'' h1 h2 => h1.trans (h2.mono (by have:=h1.size; simp at this; omega))
 have hq:Below (w.heap.size + 1) (w.alloc (.cells #[.int .i64 P,.slice Ar nr cr,vv,.int .i64 S,.int .i64 B,.int .i64 n,.int .i64 t,.int .i64 r,.int .u32 nm,.int .u32 sh] 54)) (w.alloc (.cells #[.int .i64 P,.slice Ar nr cr,vv,.int .i64 S,.int .i64 B,.int .i64 n,.int .i64 t,.int .i64 r,.int .u32 nm,.int .u32 sh] 54)):=Below.refl _ _
 clear hs0 s
 by_cases hc0:c=0
 ·subst hc0
  by_cases hs:(nr:Int)=P
  ·have d2:((nr:Int) != P)=false:=by simp [hs]
   have e2:decide ((nr:Int)=P)=true:=by simp [hs]
   rw [e2] at HX
   clear hs e2
   cases zb <;> cases zs <;> cases zt <;> cases zr
   all_goals (
   go_enter Try.func25,Try.ntmps25
   go_wp2_with (first
    | (go_at_call 33; (with_reducible refine Calls.mono (HVC.out _ (HLOW.out _ hq)) ?_); rintro e wa ⟨rfl,hba⟩; (have hq:=HUP.out _ _ hq hba); (obtain ⟨q0,q1,q2,q3,q4,q5,q6,q7⟩:=HBOX.out _ hq); clear hba)
    | (go_at_call 34; (with_reducible refine Calls.mono (HCR.out _ (HLOW.out _ hq)) ?_); rintro e wa ⟨rfl,hba⟩; (have hq:=HUP.out _ _ hq hba); (obtain ⟨q0,q1,q2,q3,q4,q5,q6,q7⟩:=HBOX.out _ hq); clear hba)
    | (go_at_call 36; (with_reducible refine Calls.mono (HBR.out _) ?_); rintro e wa ⟨rfl,hba⟩; (have hq:=HUP.out _ _ hq hba); (obtain ⟨q0,q1,q2,q3,q4,q5,q6,q7⟩:=HBOX.out _ hq); clear hba)
    | (go_at_call 37; (with_reducible refine Calls.mono (HT.out _) ?_); rintro e wa ⟨rfl,hba⟩; (have hq:=HUP.out _ _ hq hba); (obtain ⟨q0,q1,q2,q3,q4,q5,q6,q7⟩:=HBOX.out _ hq); clear hba)
    | (go_at_call 37; (with_reducible refine Calls.mono (HR.out _) ?_); rintro e wa ⟨rfl,hba⟩; (have hq:=HUP.out _ _ hq hba); (obtain ⟨q0,q1,q2,q3,q4,q5,q6,q7⟩:=HBOX.out _ hq); clear hba)
    | fail)
   go_ret
   exact ⟨by rw [HX.out]; rfl,HLOW.out _ hq⟩)
  ·have d2:((nr:Int) != P)=true:=by simp [hs]
   have e2:decide ((nr:Int)=P)=false:=by simp [hs]
   rw [e2] at HX
   clear hs e2
   go_enter Try.func25,Try.ntmps25
   go_wp2_with (first
    | (go_at_call 33; (with_reducible refine Calls.mono (HVC.out _ (HLOW.out _ hq)) ?_); rintro e wa ⟨rfl,hba⟩; (have hq:=HUP.out _ _ hq hba); (obtain ⟨q0,q1,q2,q3,q4,q5,q6,q7⟩:=HBOX.out _ hq); clear hba)
    | (go_at_call 34; (with_reducible refine Calls.mono (HCR.out _ (HLOW.out _ hq)) ?_); rintro e wa ⟨rfl,hba⟩; (have hq:=HUP.out _ _ hq hba); (obtain ⟨q0,q1,q2,q3,q4,q5,q6,q7⟩:=HBOX.out _ hq); clear hba)
    | (go_at_call 36; (with_reducible refine Calls.mono (HBR.out _) ?_); rintro e wa ⟨rfl,hba⟩; (have hq:=HUP.out _ _ hq hba); (obtain ⟨q0,q1,q2,q3,q4,q5,q6,q7⟩:=HBOX.out _ hq); clear hba)
    | (go_at_call 37; (with_reducible refine Calls.mono (HT.out _) ?_); rintro e wa ⟨rfl,hba⟩; (have hq:=HUP.out _ _ hq hba); (obtain ⟨q0,q1,q2,q3,q4,q5,q6,q7⟩:=HBOX.out _ hq); clear hba)
    | (go_at_call 37; (with_reducible refine Calls.mono (HR.out _) ?_); rintro e wa ⟨rfl,hba⟩; (have hq:=HUP.out _ _ hq hba); (obtain ⟨q0,q1,q2,q3,q4,q5,q6,q7⟩:=HBOX.out _ hq); clear hba)
    | fail)
   go_ret
   exact ⟨by rw [HX.out,planK_1 (by simp)]; rfl,HLOW.out _ hq⟩
 ·have d1:((c:Int) != 0)=true:=by simp; omega
  go_enter Try.func25,Try.ntmps25
  go_wp2_with (first
    | (go_at_call 33; (with_reducible refine Calls.mono (HVC.out _ (HLOW.out _ hq)) ?_); rintro e wa ⟨rfl,hba⟩; (have hq:=HUP.out _ _ hq hba); (obtain ⟨q0,q1,q2,q3,q4,q5,q6,q7⟩:=HBOX.out _ hq); clear hba)
    | (go_at_call 34; (with_reducible refine Calls.mono (HCR.out _ (HLOW.out _ hq)) ?_); rintro e wa ⟨rfl,hba⟩; (have hq:=HUP.out _ _ hq hba); (obtain ⟨q0,q1,q2,q3,q4,q5,q6,q7⟩:=HBOX.out _ hq); clear hba)
    | (go_at_call 36; (with_reducible refine Calls.mono (HBR.out _) ?_); rintro e wa ⟨rfl,hba⟩; (have hq:=HUP.out _ _ hq hba); (obtain ⟨q0,q1,q2,q3,q4,q5,q6,q7⟩:=HBOX.out _ hq); clear hba)
    | (go_at_call 37; (with_reducible refine Calls.mono (HT.out _) ?_); rintro e wa ⟨rfl,hba⟩; (have hq:=HUP.out _ _ hq hba); (obtain ⟨q0,q1,q2,q3,q4,q5,q6,q7⟩:=HBOX.out _ hq); clear hba)
    | (go_at_call 37; (with_reducible refine Calls.mono (HR.out _) ?_); rintro e wa ⟨rfl,hba⟩; (have hq:=HUP.out _ _ hq hba); (obtain ⟨q0,q1,q2,q3,q4,q5,q6,q7⟩:=HBOX.out _ hq); clear hba)
    | fail)
  go_ret
  exact ⟨by rw [HX.out,planK_c hc0]; rfl,HLOW.out _ hq⟩
end Go.Proofs.Ytfekhdgjgjodlaa
