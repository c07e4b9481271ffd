/-
  Words and contracts that a statement's proof rests on (PlainFk). No statement is proved here.
-/
import Derived.Test.YthloabdfkakehaaPlainFj
set_option linter.unusedVariables false
set_option linter.unusedSimpArgs false
namespace Go.Proofs.Ythloabdfkakehaa
section
variable {F:FcS} {m:MemS} {N:Nat} {A:Nat→FaS} {g:Nat→Nat→Pl}
theorem chgL_le (a0:Nat) (f g:Nat→Pl):∀ n,(chgL a0 f g n).length≤2 * n
 | 0 => Nat.le_refl _
 | n + 1 => by
  have:=chgL_le a0 f g n
  rw [chgL,List.length_append]
  split
  ·simp; omega
  ·simp; omega
theorem oddsL_le (F:FcS) (k:Wk) (l:List Int) (h0:Nat):∀ n,(oddsL F k l h0 n).length≤n
 | 0 => Nat.le_refl _
 | n + 1 => by
  have:=oddsL_le F k l h0 n
  rw [oddsL,List.length_append]
  split
  ·simp; omega
  ·simp; omega
theorem evensL_le (F:FcS) (k:Wk) (l:List Int) (h0:Nat):∀ n,(evensL F k l h0 n).length≤n
 | 0 => Nat.le_refl _
 | n + 1 => by
  have:=evensL_le F k l h0 n
  rw [evensL,List.length_append]
  split
  ·simp; omega
  ·simp; omega
theorem wordsL_le (F:FcS) (k:Wk) (l:List Int) (h0:Nat):∀ n,(wordsL F k l h0 n).length≤n * (2 * F.n)
 | 0 => Nat.zero_le _
 | n + 1 => by
  have:=wordsL_le F k l h0 n
  rw [wordsL,List.length_append,Nat.add_mul,Nat.one_mul]
  split
  ·have h9:=chgL_le (F.cell (h0 + n) + 1) (segF F l n) (isF F k l n) F.n
   omega
  ·simp; omega
theorem wrL_le (F:FcS) (k:Wk) (l:List Int) (h0 n:Nat):(wrL F k l h0 n).length≤n * (F.W + 1):=by
 have h1:=oddsL_le F k l h0 n
 have h2:=wordsL_le F k l h0 n
 have h3:=evensL_le F k l h0 n
 rw [wrL,List.length_append,List.length_append]
 have:n * (F.W + 1)=n + (n * (2 * F.n) + n):=by
  unfold FcS.W
  rw [Nat.mul_add,Nat.mul_add,Nat.mul_one]
  omega
 omega
def muF (F:FcS) (a:FaS):Nat :=
 if a.st=0 then 0
 else if a.st=5 then a.held
 else if a.st=4 then (a.wr.length - a.wt) + a.lc
 else if a.st=3 then (a.hc * F.W - a.ld.length) + (a.hc * (F.W + 1) + a.lc)
 else if a.st=2 then (a.lc - a.held) + (a.hc * F.W + (a.hc * (F.W + 1) + a.lc))
 else ((F.tr - a.vain) * (F.W + 1) - a.ld.length) + (a.lc + (a.hc * F.W + (a.hc * (F.W + 1) + a.lc)))
theorem mu0 {a:FaS} (h:a.st=0):muF F a=0:=by unfold muF; rw [if_pos h]
theorem mu5 {a:FaS} (h:a.st=5):muF F a=a.held:=by unfold muF; rw [if_neg (by omega),if_pos h]
theorem mu4 {a:FaS} (h:a.st=4):muF F a=(a.wr.length - a.wt) + a.lc:=by unfold muF; rw [if_neg (by omega),if_neg (by omega),if_pos h]
theorem mu3 {a:FaS} (h:a.st=3):muF F a=(a.hc * F.W - a.ld.length) + (a.hc * (F.W + 1) + a.lc):=by unfold muF; rw [if_neg (by omega),if_neg (by omega),if_neg (by omega),if_pos h]
theorem mu2 {a:FaS} (h:a.st=2):muF F a=(a.lc - a.held) + (a.hc * F.W + (a.hc * (F.W + 1) + a.lc)):=by unfold muF; rw [if_neg (by omega),if_neg (by omega),if_neg (by omega),if_neg (by omega),if_pos h]
theorem mu1 {a:FaS} (h:a.st=1):muF F a=((F.tr - a.vain) * (F.W + 1) - a.ld.length) + (a.lc + (a.hc * F.W + (a.hc * (F.W + 1) + a.lc))):=by unfold muF; rw [if_neg (by omega),if_neg (by omega),if_neg (by omega),if_neg (by omega),if_neg (by omega)]
def Blocked (m:MemS) (a:FaS):Prop:=a.st=2∧m.h (a.l0 + a.held) ≠ -1
instance (m:MemS) (a:FaS):Decidable (Blocked m a):=by unfold Blocked; exact inferInstance
theorem mu_pos (h:FdbInv F m N A g) {i:Nat} (hi:i < N) (hst:(A i).st ≠ 0):0 < muF F (A i):=by
 have h5:=(h.stg i hi).le5
 have hlc:=(h.ok i hi).lc
 unfold muF
 rw [if_neg hst]
 by_cases e5:(A i).st=5
 ·rw [if_pos e5]; exact ((h.stg i hi).five e5).held
 rw [if_neg e5]
 by_cases e4:(A i).st=4
 ·rw [if_pos e4]; omega
 rw [if_neg e4]
 by_cases e3:(A i).st=3
 ·rw [if_pos e3]; omega
 rw [if_neg e3]
 by_cases e2:(A i).st=2
 ·rw [if_pos e2]; omega
 rw [if_neg e2]
 omega
theorem mu_step (h:FdbInv F m N A g) {i:Nat} (hi:i < N) (hst:(A i).st ≠ 0) (hb:¬ Blocked m (A i)):muF F (stepF F m (A i)).2 < muF F (A i):=by
 have hp:=mu_pos h hi hst
 have h5:=(h.stg i hi).le5
 have hlc:=(h.ok i hi).lc
 have hW:=F.W_pos
 unfold stepF
 by_cases e1:(A i).st=1
 ·rw [if_pos e1]
  have s1:=(h.stg i hi).one e1
  have hmu:=mu1 (F:=F) e1
  have hv:=s1.vain
  have hle:=s1.len
  have hc1:=s1.hc
  have hx:(F.tr - (A i).vain) * (F.W + 1)=(F.tr - (A i).vain - 1) * (F.W + 1) + (F.W + 1):=by
   rw [← Nat.succ_mul]; congr 1; omega
  unfold tryF
  by_cases hl:(A i).ld.length < (A i).hc * F.W
  ·rw [if_pos hl]
   rw [hc1,Nat.one_mul] at hl
   have hr:=mu1 (F:=F) (a:=rdA F m (A i)) e1
   have hlen:(rdA F m (A i)).ld.length=(A i).ld.length + 1:=by unfold rdA; simp
   rw [hlen] at hr
   show muF F (rdA F m (A i)) < _
   have hr2:muF F (rdA F m (A i))=((F.tr - (A i).vain) * (F.W + 1) - ((A i).ld.length + 1)) + ((A i).lc + ((A i).hc * F.W + ((A i).hc * (F.W + 1) + (A i).lc))):=hr
   rw [hr2,hmu]
   omega
  ·rw [if_neg hl]
   rw [hc1,Nat.one_mul] at hl
   by_cases hq:m.c (F.cell (A i).h0)=(A i).ld.getD 0 0∧m.c (F.cell (A i).h0) % 2=0
   ·rw [if_pos hq]
    exact Nat.lt_of_le_of_lt (Nat.le_of_eq (mu0 rfl)) hp
   ·rw [if_neg hq]
    by_cases hv1:(A i).vain + 1=F.tr
    ·rw [if_pos hv1,hmu]
     refine Nat.lt_of_le_of_lt (Nat.le_of_eq (mu2 rfl)) ?_
     show ((A i).lc - (A i).held) + ((A i).hc * F.W + ((A i).hc * (F.W + 1) + (A i).lc)) < _
     omega
    ·rw [if_neg hv1,hmu]
     refine Nat.lt_of_le_of_lt (Nat.le_of_eq (mu1 rfl)) ?_
     show ((F.tr - ((A i).vain + 1)) * (F.W + 1) - 0) + ((A i).lc + ((A i).hc * F.W + ((A i).hc * (F.W + 1) + (A i).lc))) < _
     rw [show F.tr - ((A i).vain + 1)=F.tr - (A i).vain - 1 by omega]
     omega
 rw [if_neg e1]
 by_cases e2:(A i).st=2
 ·rw [if_pos e2]
  have s2:=(h.stg i hi).two e2
  have hheld:=s2.held
  have hl:m.h ((A i).l0 + (A i).held)=-1:=by
   rcases Int.decEq (m.h ((A i).l0 + (A i).held)) (-1) with h9 | h9
   ·exact absurd ⟨e2,h9⟩ hb
   ·exact h9
  have hmu:=mu2 (F:=F) e2
  unfold takF
  rw [if_pos hl,hmu]
  by_cases hq:(A i).held + 1=(A i).lc
  ·rw [if_pos hq]
   refine Nat.lt_of_le_of_lt (Nat.le_of_eq (mu3 rfl)) ?_
   show ((A i).hc * F.W - (A i).ld.length) + ((A i).hc * (F.W + 1) + (A i).lc) < _
   omega
  ·rw [if_neg hq]
   refine Nat.lt_of_le_of_lt (Nat.le_of_eq (mu2 rfl)) ?_
   show ((A i).lc - ((A i).held + 1)) + ((A i).hc * F.W + ((A i).hc * (F.W + 1) + (A i).lc)) < _
   omega
 rw [if_neg e2]
 by_cases e3:(A i).st=3
 ·rw [if_pos e3]
  have s3:=(h.stg i hi).three e3
  have hlen:=s3.len
  have hmu:=mu3 (F:=F) e3
  have hrd:(rdA F m (A i)).ld.length=(A i).ld.length + 1:=by unfold rdA; simp
  have hheld:=s3.held
  unfold loaF
  rw [hmu]
  show muF F (if _ then _ else _) < _
  by_cases hq:(rdA F m (A i)).ld.length < (A i).hc * F.W
  ·rw [if_pos hq]
   have hr:=mu3 (F:=F) (a:=rdA F m (A i)) e3
   rw [hrd] at hr
   have hr2:muF F (rdA F m (A i))=((A i).hc * F.W - ((A i).ld.length + 1)) + ((A i).hc * (F.W + 1) + (A i).lc):=hr
   rw [hr2]
   omega
  ·rw [if_neg hq]
   have hwl:=wrL_le F (A i).wk (rdA F m (A i)).ld (A i).h0 (A i).hc
   by_cases hw:wrL F (A i).wk (rdA F m (A i)).ld (A i).h0 (A i).hc=[]
   ·have e5:(setA F (m.t + 1) (rdA F m (A i))).st=5:=by
     show (if _ then _ else _)=_
     exact if_pos hw
    refine Nat.lt_of_le_of_lt (Nat.le_of_eq (mu5 e5)) ?_
    show (A i).held < _
    omega
   ·have e5:(setA F (m.t + 1) (rdA F m (A i))).st=4:=by
     show (if _ then _ else _)=_
     exact if_neg hw
    refine Nat.lt_of_le_of_lt (Nat.le_of_eq (mu4 e5)) ?_
    show ((wrL F (A i).wk (rdA F m (A i)).ld (A i).h0 (A i).hc).length - (A i).wt) + (A i).lc < _
    omega
 rw [if_neg e3]
 by_cases e4:(A i).st=4
 ·rw [if_pos e4]
  obtain ⟨s4,hwt⟩:=(h.stg i hi).four e4
  have hheld:=s4.held
  have hmu:=mu4 (F:=F) e4
  unfold stoF
  rw [hmu]
  by_cases hq:(A i).wt + 1=(A i).wr.length
  ·rw [if_pos hq]
   refine Nat.lt_of_le_of_lt (Nat.le_of_eq (mu5 rfl)) ?_
   show (A i).held < _
   omega
  ·rw [if_neg hq]
   refine Nat.lt_of_le_of_lt (Nat.le_of_eq (mu4 rfl)) ?_
   show ((A i).wr.length - ((A i).wt + 1)) + (A i).lc < _
   omega
 rw [if_neg e4,if_pos (by omega)]
 have e5:(A i).st=5:=by omega
 have s5:=(h.stg i hi).five e5
 have hheld:=s5.held
 have hmu:=mu5 (F:=F) e5
 unfold freF
 rw [hmu]
 by_cases hq:(A i).held - 1=0
 ·rw [if_pos hq]
  refine Nat.lt_of_le_of_lt (Nat.le_of_eq (mu0 rfl)) ?_
  omega
 ·rw [if_neg hq]
  refine Nat.lt_of_le_of_lt (Nat.le_of_eq (mu5 e5)) ?_
  show (A i).held - 1 < _
  omega
theorem blocked_step {a:FaS} (hb:Blocked m a):stepF F m a=(tickS m,a):=by
 unfold stepF
 rw [if_neg (by have:=hb.1; omega),if_pos hb.1]
 unfold takF
 rw [if_neg hb.2]
theorem no_dead {lg:List Nat} {fr tt:Nat→Int} (h:RunP F m N A g lg fr tt) (P:Nat→Prop) (hP:∀ i,i < N→¬ P i→(A i).held=0) (hb:∀ i,i < N→P i→(A i).st ≠ 0→Blocked m (A i)):∀ i,i < N→P i→(A i).st=0:=by
 have key:∀ d i,F.lk + F.S - ((A i).l0 + (A i).held)≤d→i < N→P i→(A i).st=0:=by
  intro d
  induction d with
  | zero =>
   intro i hd hi hp
   rcases Nat.decEq (A i).st 0 with h0 | h0
   ·exfalso
    have s2:=(h.inv.stg i hi).two (hb i hi hp h0).1
    have:=s2.held
    have:=(h.inv.ok i hi).l2
    omega
   ·exact h0
  | succ d ih =>
   intro i hd hi hp
   rcases Nat.decEq (A i).st 0 with h0 | h0
   ·exfalso
    obtain ⟨b1,b2⟩:=hb i hi hp h0
    rcases h.lock ((A i).l0 + (A i).held) with h9 | ⟨j,hj,h9⟩
    ·exact b2 h9
    ·have hj0:(A j).held ≠ 0:=by omega
     by_cases hpj:P j
     ·have:=ih j (by have:=(h.inv.ok i hi).l2; have:=((h.inv.stg i hi).two b1).held; omega) hj hpj
      exact hj0 ((h.inv.stg j hj).held0 this)
     ·exact hj0 (hP j hj hpj)
   ·exact h0
 exact fun i hi hp => key _ i (Nat.le_refl _) hi hp
theorem RunP.free {lg:List Nat} {fr tt:Nat→Int} (h:RunP F m N A g lg fr tt) (h0:∀ i,i < N→(A i).st=0) (x:Nat):m.h x=-1:=by
 rcases h.lock x with h9 | ⟨j,hj,h9⟩
 ·exact h9
 ·have:=(h.inv.stg j hj).held0 (h0 j hj)
  omega
theorem RunP.book {lg:List Nat} {fr tt:Nat→Int} (h:RunP F m N A g lg fr tt) (h0:∀ i,i < N→(A i).st=0) {H:Nat} (hH:H < F.S * F.B):eqP F.n (bkM F m.c H) (g H) :=
 (h.inv.idle H hH fun i hi h4 => by have:=h0 i hi; omega).2
def boundF (F:FcS):Nat:=16 + F.tr * (4 + 4 * F.n) + F.S * (4 + F.B * (8 + 8 * F.n))
def wkO (K:Nat) (v:Int) (mc:Nat) (port vid:Int) (now old:Nat):Wk :=
 if K=0 then .look v mc
 else if K=3 then .order v mc port now
 else if K=4 then .drop v mc
 else if K=5 then .age now old
 else if K=6 then .flush port vid
 else .learn v mc port now
end
end Go.Proofs.Ythloabdfkakehaa
