/-
  Words and contracts that a statement's proof rests on (FgU, FgV). No statement is proved here.
-/
import Derived.Test.YthloabdfkakehaaGreatOpenBk
import Derived.Test.YthloabdfkakehaaGreatFgN
set_option linter.unusedVariables false
set_option linter.unusedSimpArgs false
namespace Go.Proofs.YthloabdfkakehaaGreat
section
open Go.RowKit
section
variable {F:FcS} {C L P:Nat} {ls:Nat→List OpN} {s s' s0:RunS} {g:Nat→Nat→Pl} {Q:Nat→Bool} {p:Nat} {z:Bool}
theorem RoundR.le {j:Nat} (h:RoundR F P ls Q s0 j s):muR F P ls Q s≤muR F P ls Q s0:=by
 rcases h with h | ⟨h,_⟩
 ·omega
 ·rw [h.mu]; exact Nat.le_refl _
theorem muR_none (h:∀ p,p < P→Q p=true→s.nw p=-1∧s.at_ p=(ls p).length):muR F P ls Q s=0:=by
 have key:∀ k,k≤P→sumN (fun p => if Q p=true then muO F ls s p else 0) k=0:=fun k => by
  induction k with
  | zero => exact fun _ => rfl
  | succ k ih =>
   intro hk
   rw [sumN,ih (by omega)]
   by_cases e:Q k=true
   ·obtain ⟨h1,h2⟩:=h k (by omega) e
    rw [if_pos e]
    unfold muO
    rw [if_pos h1,h2,Nat.sub_self,Nat.zero_mul]
   ·rw [if_neg e]
 exact key P (Nat.le_refl P)
theorem RoundR.down (h:RoundR F P ls Q s0 P s) (hk:RunK F P ls s0 g) (hQ:∀ p,p < P→Q p=false→∀ i:Nat,s0.nw p=(i:Int)→(s0.A i).held=0) {n mo:Nat} (hm:muR F P ls Q s0≤mo - n):muR F P ls Q s≤mo - (n + 1):=by
 have h1:=h.le
 rcases h.done hk hQ with h2 | h2
 ·omega
 ·have:=muR_none (F:=F) h2
  omega
theorem free_held (hK:RunK F P ls s g) (hlk:F.lk=1) (hp:p < P) (hfree:∀ l:Nat,1≤l→l≤F.S→s.m.h l ≠ (p:Int)):∀ i:Nat,s.nw p=(i:Int)→(s.A i).held=0:=by
 intro i hi
 rcases hK.nw p hp with e | ⟨j,hj,e,hst,hwho⟩
 ·omega
 ·have e9:j=i:=by omega
  subst e9
  rcases Nat.eq_zero_or_pos (s.A j).held with h0 | h0
  ·exact h0
  ·exfalso
   have hok:=hK.run.inv.ok j hj
   have hle:=(hK.run.inv.stg j hj).le
   have h1:=hK.run.inv.own j hj 0 h0
   rw [hwho] at h1
   have:=hok.l1
   have:=hok.l2
   have:=hok.lc
   exact hfree _ (by omega) (by omega) h1
theorem still_same {q:Nat} (hK:RunK F P ls s g) (hp:p < P) (hq:q ≠ p) (hqP:q < P) (hr:StepR F P ls s q z s'):s'.nw p=s.nw p∧s'.at_ p=s.at_ p∧∀ i:Nat,s.nw p=(i:Int)→s'.A i=s.A i:=by
 rcases hr with ⟨_,e,_,_⟩ | ⟨_,s1,i,lg,h1,hi,e⟩
 ·rw [e]; exact ⟨rfl,rfl,fun _ _ => rfl⟩
 ·have hgo:(goR F s1 q i lg).nw p=s1.nw p∧(goR F s1 q i lg).at_ p=s1.at_ p:=by
   refine ⟨?_,rfl⟩
   show (if (stepF F s1.m (s1.A i)).2.st=0 then updI s1.nw q (-1) else s1.nw) p=s1.nw p
   split
   ·exact if_neg (Ne.symm hq)
   ·rfl
  rcases h1 with ⟨e1,hnw⟩ | ⟨o,ho,hok,e1,ei,hnw,hat⟩
  ·subst e1
   rw [e]
   refine ⟨hgo.1,hgo.2,fun j hj => ?_⟩
   refine updA_other _ _ fun e9 => ?_
   subst e9
   rcases hK.nw p hp with e8 | ⟨j',_,e8,_,e7⟩
   ·omega
   ·rcases hK.nw q hqP with e6 | ⟨j2,_,e6,_,e5⟩
    ·omega
    ·have:j2=j':=by omega
     subst this
     omega
  ·have hn:s1.nw p=s.nw p:=by rw [e1]; exact if_neg (Ne.symm hq)
   have ha:s1.at_ p=s.at_ p:=by rw [e1]; exact if_neg (Ne.symm hq)
   rw [e]
   refine ⟨hgo.1.trans hn,hgo.2.trans ha,fun j hj => ?_⟩
   have hjN:j < s.N:=by
    rcases hK.nw p hp with e8 | ⟨j',h8,e8,_,_⟩
    ·omega
    ·omega
   show updA s1.A i _ j=s.A j
   rw [updA_other _ _ (by omega),e1]
   exact updA_other _ _ (by omega)
structure AloneR (F:FcS) (s:RunS):Prop where
 vain:∀ i,i < s.N→(s.A i).vain=0
 rd:∀ i,i < s.N→(s.A i).st=1→0 < (s.A i).ld.length→(s.A i).ld.getD 0 0=s.m.c (F.cell (s.A i).h0)
theorem getD_snocU (l:List Int) (x:Int) (h:0 < l.length):(l ++ [x]).getD 0 0=l.getD 0 0:=by
 cases l with
 | nil => simp at h
 | cons a r => rfl
theorem AloneR.step (h:AloneR F s) (hK:RunK F 1 ls s g) (hf:FFit F C L) (hr:StepR F 1 ls s 0 z s'):AloneR F s':=by
 rcases hr with ⟨_,e,_,_⟩ | ⟨_,s1,i,lg,h1,hi,e⟩
 ·rw [e]; exact h
 ·have hs1:AloneR F s1∧(∃ g1,RunK F 1 ls s1 g1)∧s1.nw 0=(i:Int):=by
   rcases h1 with ⟨e1,hnw⟩ | ⟨o,ho,hok,e1,ei,hnw,hat⟩
   ·subst e1; exact ⟨h,⟨g,hK⟩,hnw⟩
   ·obtain ⟨b1,b2,b3,b4,b5,b6,b7,b8,b9,b10⟩:=beg_mark F ((0:Nat):Int) o
    refine ⟨?_,⟨g,by rw [e1]; exact hK.beg hf (by omega) hnw hat hok⟩,by rw [e1,ei]; show updI s.nw 0 (s.N:Int) 0=_; exact if_pos rfl⟩
    rw [e1]
    refine ⟨fun j hj => ?_,fun j hj hst hld => ?_⟩
    ·show (updA s.A s.N _ j).vain=0
     by_cases e9:j=s.N
     ·subst e9; rw [updA_same]; exact b9
     ·rw [updA_other _ _ e9]; exact h.vain j (by have:j < s.N + 1:=hj; omega)
    ·have hst:(updA s.A s.N (begA F ((0:Nat):Int) o) j).st=1:=hst
     have hld:0 < (updA s.A s.N (begA F ((0:Nat):Int) o) j).ld.length:=hld
     show (updA s.A s.N (begA F ((0:Nat):Int) o) j).ld.getD 0 0=s.m.c (F.cell (updA s.A s.N (begA F ((0:Nat):Int) o) j).h0)
     by_cases e9:j=s.N
     ·subst e9; rw [updA_same,b5] at hld; exact absurd hld (by decide)
     ·rw [updA_other _ _ e9] at hst hld ⊢; exact h.rd j (by have:j < s.N + 1:=hj; omega) hst hld
  obtain ⟨ha,⟨g1,hk1⟩,hnw⟩:=hs1
  have hover:∀ j,j < s1.N→j ≠ i→(s1.A j).st=0:=fun j hj hne => by
   rcases Nat.decEq (s1.A j).st 0 with h0 | h0
   ·obtain ⟨p,hp,_,h2⟩:=hk1.act j hj h0
    have hp0:p=0:=by omega
    subst hp0
    omega
   ·exact h0
  rw [e]
  have hv:(stepF F s1.m (s1.A i)).2.vain=0∧((stepF F s1.m (s1.A i)).2.st=1→0 < (stepF F s1.m (s1.A i)).2.ld.length→(stepF F s1.m (s1.A i)).2.ld.getD 0 0=(stepF F s1.m (s1.A i)).1.c (F.cell (stepF F s1.m (s1.A i)).2.h0)):=by
   have hv0:=ha.vain i hi
   unfold stepF
   by_cases e1:(s1.A i).st=1
   ·rw [if_pos e1]
    have hS1:=(hk1.run.inv.stg i hi).one e1
    have hok:=hk1.run.inv.ok i hi
    unfold tryF
    by_cases e2:(s1.A i).ld.length < (s1.A i).hc * F.W
    ·rw [if_pos e2]
     refine ⟨hv0,fun _ _ => ?_⟩
     show ((s1.A i).ld ++ [s1.m.c (F.cell (s1.A i).h0 + (s1.A i).ld.length)]).getD 0 0=s1.m.c (F.cell (s1.A i).h0)
     rcases Nat.eq_zero_or_pos (s1.A i).ld.length with h0 | h0
     ·rw [List.length_eq_zero_iff.1 h0]
      rfl
     ·rw [getD_snocU _ _ h0]
      exact ha.rd i hi e1 h0
    ·rw [if_neg e2]
     have hlen:0 < (s1.A i).ld.length:=by
      have hW:1≤F.W:=by unfold FcS.W; omega
      have:=Nat.mul_le_mul (Nat.le_of_eq hS1.hc.symm) hW
      omega
     have hH:(s1.A i).h0 < F.S * F.B:=by have:=hok.hh; have:=hok.hc; omega
     have heven:=(hk1.run.inv.idle _ hH fun j hj h4 => by
      by_cases e9:j=i
      ·subst e9; omega
      ·have:=hover j hj e9; omega).1
     rw [if_pos ⟨(ha.rd i hi e1 hlen).symm,heven⟩]
     exact ⟨hv0,fun h9 => absurd h9 (by show ¬ (0:Nat)=1; decide)⟩
   ·rw [if_neg e1]
    by_cases e2:(s1.A i).st=2
    ·rw [if_pos e2]
     unfold takF
     split
     ·refine ⟨hv0,fun h9 => ?_⟩
      exfalso
      revert h9
      show (if _ then 3 else 2)=1→False
      split <;> intro h9 <;> omega
     ·exact ⟨hv0,fun h9 => absurd h9 e1⟩
    ·rw [if_neg e2]
     by_cases e3:(s1.A i).st=3
     ·rw [if_pos e3]
      unfold loaF
      refine ⟨?_,fun h9 => ?_⟩
      ·show FaS.vain (if _ then _ else _)=0
       split <;> exact hv0
      ·exfalso
       revert h9
       show FaS.st (if _ then _ else _)=1→False
       split
       ·intro h9
        have h9:(s1.A i).st=1:=h9
        omega
       ·show (if _ then 5 else 4)=1→False
        split <;> intro h9 <;> omega
     ·rw [if_neg e3]
      by_cases e4:(s1.A i).st=4
      ·rw [if_pos e4]
       unfold stoF
       refine ⟨hv0,fun h9 => ?_⟩
       exfalso
       revert h9
       show (if _ then 5 else 4)=1→False
       split <;> intro h9 <;> omega
      ·rw [if_neg e4]
       by_cases e5:(s1.A i).st=5
       ·rw [if_pos e5]
        unfold freF
        refine ⟨?_,fun h9 => ?_⟩
        ·show FaS.vain (if _ then _ else _)=0
         split <;> exact hv0
        ·exfalso
         revert h9
         show FaS.st (if _ then _ else _)=1→False
         split
         ·intro h9
          have h9:(0:Nat)=1:=h9
          omega
         ·intro h9
          have h9:(s1.A i).st=1:=h9
          omega
       ·rw [if_neg e5]
        exact ⟨hv0,fun h9 => absurd h9 e1⟩
  refine ⟨fun j hj => ?_,fun j hj hst hld => ?_⟩
  ·show (updA s1.A i _ j).vain=0
   by_cases e9:j=i
   ·subst e9; rw [updA_same]; exact hv.1
   ·rw [updA_other _ _ e9]; exact ha.vain j hj
  ·have hst:(updA s1.A i (stepF F s1.m (s1.A i)).2 j).st=1:=hst
   have hld:0 < (updA s1.A i (stepF F s1.m (s1.A i)).2 j).ld.length:=hld
   show (updA s1.A i (stepF F s1.m (s1.A i)).2 j).ld.getD 0 0=(stepF F s1.m (s1.A i)).1.c (F.cell (updA s1.A i (stepF F s1.m (s1.A i)).2 j).h0)
   by_cases e9:j=i
   ·subst e9; rw [updA_same] at hst hld ⊢; exact hv.2 hst hld
   ·rw [updA_other _ _ e9] at hst
    have:=hover j hj e9
    omega
end
end
section
open Go.RowKit
theorem Ops11.below {w w':World} {u:Value} (h:Ops11 w u) (hb:Below w.heap.size w w'):Ops11 w' u:=by
 obtain ⟨A2,n2,cap2,e2,g1,g2,g3⟩:=h
 refine ⟨A2,n2,cap2,e2,g1,g2,fun hn2 => ?_⟩
 obtain ⟨b2,off2,e3,hlt2,hc2⟩:=g3 hn2
 refine ⟨b2,off2,e3,Nat.lt_of_lt_of_le hlt2 hb.size,fun j hj => ?_⟩
 obtain ⟨kd,kv,m,port,vid,now,old,p1,p2,p3,z0,z1,z2,z3,z4,z5,z6⟩:=hc2 j hj
 exact ⟨kd,kv,m,port,vid,now,old,p1,p2,p3,(hb.cell (p:=⟨b2,_,none⟩) hlt2).trans z0,(hb.cell (p:=⟨b2,_,none⟩) hlt2).trans z1,(hb.cell (p:=⟨b2,_,none⟩) hlt2).trans z2,(hb.cell (p:=⟨b2,_,none⟩) hlt2).trans z3,(hb.cell (p:=⟨b2,_,none⟩) hlt2).trans z4,(hb.cell (p:=⟨b2,_,none⟩) hlt2).trans z5,(hb.cell (p:=⟨b2,_,none⟩) hlt2).trans z6⟩
theorem one_row {w:World} {a:Value} {T:TypeId} (h:Ops11 w a):OpsRows (w.alloc (.cells #[a] T)) (.slice (some ⟨w.heap.size,0,none⟩) 1 1):=by
 refine ⟨_,1,1,rfl,Nat.le_refl _,by unfold maxLen; omega,fun _ => ⟨w.heap.size,0,rfl,by simp,fun i hi => ?_⟩⟩
 obtain rfl:i=0:=by omega
 exact ⟨a,by simp [go_sem],h.below ((Below.refl _ _).alloc (Nat.le_refl _) _)⟩
section
variable {w:World} {lo b fb rb L:Nat} {F:FcS} {P:Nat} {ls:Nat→List OpN} {lv:Nat→Value} {s s':RunS}
theorem left_uniq (h:RunAt w lo b fb rb L F P ls lv s) (h':RunAt w lo b fb rb L F P ls lv s'):leftR P ls s'=leftR P ls s:=by
 obtain ⟨g,ab,Es,V,hM,hK⟩:=h
 obtain ⟨g',ab',Es',V',hM',hK'⟩:=h'
 refine sumN_congr P fun p hp => ?_
 have e7:some (V 1)=some (V' 1):=(hM.cell (i:=7) (by omega)).symm.trans (hM'.cell (i:=7) (by omega))
 have e8:some (V 2)=some (V' 2):=(hM.cell (i:=8) (by omega)).symm.trans (hM'.cell (i:=8) (by omega))
 obtain ⟨q1,c1,f1,_,_,d1,_⟩:=(hM.slice (k:=1) (by omega) rfl).2 (by omega)
 obtain ⟨q1',c1',f1',_,_,d1',_⟩:=(hM'.slice (k:=1) (by omega) rfl).2 (by omega)
 obtain ⟨q2,c2,f2,_,_,d2,_⟩:=(hM.slice (k:=2) (by omega) rfl).2 (by omega)
 obtain ⟨q2',c2',f2',_,_,d2',_⟩:=(hM'.slice (k:=2) (by omega) rfl).2 (by omega)
 have h1:q1'=q1:=by
  rw [f1,f1'] at e7
  injection e7 with e7
  injection e7 with e7 _ _
  injection e7 with e7
  injection e7 with e7 _ _
  exact e7.symm
 have h2:q2'=q2:=by
  rw [f2,f2'] at e8
  injection e8 with e8
  injection e8 with e8 _ _
  injection e8 with e8
  injection e8 with e8 _ _
  exact e8.symm
 rw [h1] at d1'
 rw [h2] at d2'
 have i1:=(d1 p (by omega)).symm.trans (d1' p (by omega))
 have i2:=(d2 p (by omega)).symm.trans (d2' p (by omega))
 have i1:(some (Value.int .i64 (s.at_ p:Int)))=some (.int .i64 (s'.at_ p:Int)):=((kvI_at _ hp).symm.trans i1).trans (kvI_at _ hp)
 have i2:(some (Value.int .i64 (s.nw p)))=some (.int .i64 (s'.nw p)):=((kvI_at _ hp).symm.trans i2).trans (kvI_at _ hp)
 injection i1 with i1
 injection i1 with _ i1
 injection i2 with i2
 injection i2 with _ i2
 unfold leftO
 rw [i2,show s.at_ p=s'.at_ p by omega]
open Classical in
noncomputable def muL (lo b fb rb L:Nat) (F:FcS) (P:Nat) (ls:Nat→List OpN) (lv:Nat→Value) (w:World):Nat:=if h:∃ n s,RunAt w lo b fb rb L F P ls lv s∧leftR P ls s=n then h.choose else 0
theorem muL_eq (h:RunAt w lo b fb rb L F P ls lv s):muL lo b fb rb L F P ls lv w=leftR P ls s:=by
 have h9:∃ n s,RunAt w lo b fb rb L F P ls lv s∧leftR P ls s=n:=⟨_,s,h,rfl⟩
 unfold muL
 rw [dif_pos h9]
 obtain ⟨s',h1,h2⟩:=h9.choose_spec
 rw [← h2]
 exact left_uniq h h1
end
section
variable {F:FcS} {C L:Nat} {ls:Nat→List OpN} {s s' s0:RunS} {g:Nat→Nat→Pl} {n j:Nat} {z:Bool}
def PhaseR (F:FcS) (ls:Nat→List OpN) (s0:RunS) (n j:Nat) (s:RunS):Prop :=
 (j=0∧s=s0∧s.nw 0=-1∧leftR 1 ls s=n∧0 < n) ∨ (0 < j∧leftR 1 ls s=n∧∃ i:Nat,s.nw 0=(i:Int)∧muF F (s.A i) + j + 1≤boundF F) ∨ (0 < j∧leftR 1 ls s + 1=n∧s.nw 0=-1∧0 < s.N∧j + 1≤boundF F)
theorem alone_free (hK:RunK F 1 ls s g) {i:Nat} (hnw:s.nw 0=(i:Int)):¬ Blocked s.m (s.A i):=fun hb => by
 have h:=hK.dead (Q:=fun _ => true) (fun p _ h => by cases h) (fun p hp _ => by
  obtain rfl:p=0:=by omega
  exact .inr ⟨i,hnw,hb⟩) 0 (by omega) rfl
 omega
theorem left_one:leftR 1 ls s=(ls 0).length - s.at_ 0 + (if s.nw 0=-1 then 0 else 1):=by
 show 0 + leftO ls s 0=_
 rw [Nat.zero_add]
 rfl
theorem PhaseR.lt (h:PhaseR F ls s0 n j s):j < boundF F:=by
 rcases h with ⟨h,_⟩ | ⟨_,_,i,_,h⟩ | ⟨_,_,_,_,h⟩
 ·rw [h]; unfold boundF; omega
 ·omega
 ·omega
theorem over_nw {P:Nat} (hk:RunK F P ls s g) (h:∀ p,p < P→s.nw p=-1):∀ i,i < s.N→(s.A i).st=0:=by
 intro i hi
 rcases Nat.decEq (s.A i).st 0 with h0 | h0
 ·obtain ⟨p,hp,_,h2⟩:=hk.act i hi h0
  have:=h p hp
  omega
 ·exact h0
theorem go_phase (hK:RunK F 1 ls s g) {i:Nat} (hi:i < s.N) (hnw:s.nw 0=(i:Int)) (hn:leftR 1 ls s=n) (hm:muF F (s.A i) + j + 1≤boundF F) (lg:List Nat):PhaseR F ls s0 n (j + 1) (goR F s 0 i lg):=by
 have hst:(s.A i).st ≠ 0:=by
  rcases hK.nw 0 (by omega) with e | ⟨k,_,e,h,_⟩
  ·omega
  ·have:k=i:=by omega
   subst this
   exact h
 have h1:=mu_step hK.run.inv hi hst (alone_free hK hnw)
 rw [left_one,hnw,if_neg (by omega)] at hn
 by_cases h0:(stepF F s.m (s.A i)).2.st=0
 ·right; right
  have e:(goR F s 0 i lg).nw 0=-1:=by
   show (if (stepF F s.m (s.A i)).2.st=0 then updI s.nw 0 (-1) else s.nw) 0=-1
   rw [if_pos h0]
   exact if_pos rfl
  refine ⟨by omega,?_,e,by show 0 < s.N; omega,by omega⟩
  rw [left_one,e,if_pos rfl]
  show (ls 0).length - s.at_ 0 + 0 + 1=n
  omega
 ·right; left
  have e:(goR F s 0 i lg).nw 0=(i:Int):=by
   show (if (stepF F s.m (s.A i)).2.st=0 then updI s.nw 0 (-1) else s.nw) 0=_
   rw [if_neg h0,hnw]
  refine ⟨by omega,?_,i,e,?_⟩
  ·rw [left_one,e,if_neg (by omega)]
   exact hn
  ·show muF F (updA s.A i (stepF F s.m (s.A i)).2 i) + (j + 1) + 1≤_
   rw [updA_same]
   omega
theorem PhaseR.step (h:PhaseR F ls s0 n j s) (hK:RunK F 1 ls s g) (hf:FFit F C L) (hn:leftR 1 ls s=n) (hr:StepR F 1 ls s 0 z s'):PhaseR F ls s0 n (j + 1) s':=by
 rcases h with ⟨hj,h1,h2,h3,h4⟩ | ⟨hj,h1,i,h2,h3⟩ | ⟨_,h1,_⟩
 ·rcases hr with ⟨_,e,e1,e2⟩ | ⟨_,s1,i,lg,h5,hi,e⟩
  ·exfalso
   rw [left_one,e1,if_pos rfl,e2] at hn
   omega
  ·rcases h5 with ⟨e1,hnw⟩ | ⟨o,ho,hok,e1,ei,hnw,hat⟩
   ·subst e1; omega
   ·have hk1:RunK F 1 ls s1 g:=by rw [e1]; exact hK.beg hf (by omega) hnw hat hok
    have hnw1:s1.nw 0=(i:Int):=by rw [e1,ei]; show updI s.nw 0 (s.N:Int) 0=_; exact if_pos rfl
    have hat1:s1.at_ 0=s.at_ 0 + 1:=by rw [e1]; show updN s.at_ 0 (s.at_ 0 + 1) 0=_; exact if_pos rfl
    have hm:muF F (s1.A i) < boundF F:=by
     rw [e1,ei]
     show muF F (updA s.A s.N _ s.N) < _
     rw [updA_same]
     exact beg_mu hf hok
    rw [e]
    refine go_phase hk1 hi hnw1 ?_ (by omega) lg
    rw [left_one,hnw1,if_neg (by omega),hat1]
    rw [left_one,hnw,if_pos rfl] at hn
    omega
 ·rcases hr with ⟨_,e,e1,e2⟩ | ⟨_,s1,i',lg,h5,hi,e⟩
  ·omega
  ·rcases h5 with ⟨e1,hnw⟩ | ⟨o,ho,hok,e1,ei,hnw,hat⟩
   ·subst e1
    have:i'=i:=by omega
    subst this
    rw [e]
    exact go_phase hK hi h2 h1 h3 lg
   ·omega
 ·omega
end
end
end Go.Proofs.YthloabdfkakehaaGreat
