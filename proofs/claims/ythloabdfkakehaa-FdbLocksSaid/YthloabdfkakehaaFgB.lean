/-
  Words and contracts that a statement's proof rests on (FgB). No statement is proved here.
-/
import Derived.Test.YthloabdfkakehaaPlainFk
import Derived.Test.YthloabdfkakehaaFeA
set_option linter.unusedVariables false
set_option linter.unusedSimpArgs false
namespace Go.Proofs.Ythloabdfkakehaa
open Go.RowKit
structure OpN where
 K:Nat
 v:Int
 mc:Nat
 port:Int
 vid:Int
 now:Nat
 old:Nat
structure OpOk (F:FcS) (o:OpN):Prop where
 K:o.K < 7
 key:rightK o.v o.mc=true
 mc:o.mc < 18446744073709551616
 port:1≤o.K→o.K≤3→0≤o.port∧o.port < 64
 age:o.K=5→(0≤o.port∧o.port < (F.S:Int))∧0≤o.vid∧o.vid < (F.B:Int)
 now:o.now < 4294967296
 old:o.old < 4294967296
def begA (F:FcS) (who:Int) (o:OpN):FaS :=
 if o.K=5 then newA who (wkO o.K o.v o.mc o.port o.vid o.now o.old) (F.lk + o.port.toNat) 1 (o.port.toNat * F.B + o.vid.toNat) 1 2
 else if o.K=6 then newA who (wkO o.K o.v o.mc o.port o.vid o.now o.old) F.lk F.S 0 (F.S * F.B) 2
 else newA who (wkO o.K o.v o.mc o.port o.vid o.now o.old) (F.lk + shN F o.v o.mc) 1 (shN F o.v o.mc * F.B + buN F o.v o.mc) 1 (if o.K=0 then 1 else 2)
theorem beg_mark (F:FcS) (who:Int) (o:OpN):(begA F who o).mark=0∧(begA F who o).held=0∧(begA F who o).who=who∧(begA F who o).wk=wkO o.K o.v o.mc o.port o.vid o.now o.old∧(begA F who o).ld=[]∧(begA F who o).wr=[]∧(begA F who o).ans=0∧(begA F who o).wt=0∧(begA F who o).vain=0∧((begA F who o).st=2 ∨ (o.K=0∧(begA F who o).st=1)):=by
 unfold begA newA
 by_cases h5:o.K=5
 ·rw [if_pos h5]
  exact ⟨rfl,rfl,rfl,rfl,rfl,rfl,rfl,rfl,rfl,.inl rfl⟩
 ·rw [if_neg h5]
  by_cases h6:o.K=6
  ·rw [if_pos h6]
   exact ⟨rfl,rfl,rfl,rfl,rfl,rfl,rfl,rfl,rfl,.inl rfl⟩
  ·rw [if_neg h6]
   refine ⟨rfl,rfl,rfl,rfl,rfl,rfl,rfl,rfl,rfl,?_⟩
   show (if o.K=0 then 1 else 2)=2 ∨ _
   by_cases h0:o.K=0
   ·rw [if_pos h0]; exact .inr ⟨h0,rfl⟩
   ·rw [if_neg h0]; exact .inl rfl
theorem div_row {s B n:Nat} (hn:n < B):(s * B + n) / B=s:=by
 rw [Nat.mul_comm,Nat.mul_add_div (by omega),Nat.div_eq_of_lt hn,Nat.add_zero]
theorem row_lt {s S B n:Nat} (hs:s < S) (hn:n < B):s * B + n < S * B:=by
 have h9:(s + 1) * B≤S * B:=Nat.mul_le_mul_right _ hs
 rw [Nat.add_mul,Nat.one_mul] at h9
 omega
theorem wkO_ok {K:Nat} (hK:K < 7) {v:Int} {mc:Nat} (hmc:mc < 18446744073709551616) (port vid:Int) {now:Nat} (hnow:now < 4294967296) (old:Nat):(wkO K v mc port vid now old).ok:=by
 rcases (show K=0 ∨ K=1 ∨ K=2 ∨ K=3 ∨ K=4 ∨ K=5 ∨ K=6 by omega) with rfl | rfl | rfl | rfl | rfl | rfl | rfl
 ·exact hmc
 ·exact ⟨hmc,hnow⟩
 ·exact ⟨hmc,hnow⟩
 ·exact ⟨hmc,hnow⟩
 ·exact hmc
 ·exact hnow
 ·exact trivial
section
variable {F:FcS} {C L:Nat}
theorem home_lt (hf:FFit F C L) (v:Int) (mc:Nat):shN F v mc < F.S∧buN F v mc < F.B:=by
 have hp:=pl_bd v mc F.S F.B
 have hS:=hf.S
 have hB:=hf.B
 have h3:=hp.2.1 (by omega)
 have h4:=hp.2.2.2 (by omega)
 unfold shN buN
 omega
theorem one_ok {who:Int} (hw:0≤who) {k:Wk} (hk:k.ok) {s n:Nat} (hs:s < F.S) (hn:n < F.B) (st:Nat):ActOk F (newA who k (F.lk + s) 1 (s * F.B + n) 1 st) where
 who:=hw
 wk:=hk
 hc:=Nat.le_refl 1
 hh:=by have:=row_lt hs hn; show s * F.B + n + 1≤_; omega
 lc:=Nat.le_refl 1
 l1:=Nat.le_add_right _ _
 l2:=by show F.lk + s + 1≤_; omega
 cov:=fun H hH => by
  have h1:s * F.B + n≤H:=hH.1
  have h2:H < s * F.B + n + 1:=hH.2
  have e:H=s * F.B + n:=by omega
  rw [e,div_row hn]
  show F.lk + s≤F.lk + s∧F.lk + s < F.lk + s + 1
  omega
theorem beg_ok (hf:FFit F C L) {who:Int} (hw:0≤who) {o:OpN} (ho:OpOk F o):ActOk F (begA F who o):=by
 have hk:=wkO_ok ho.K (v:=o.v) ho.mc o.port o.vid ho.now o.old
 obtain ⟨h1,h2⟩:=home_lt hf o.v o.mc
 have hS:=hf.S
 have hB:=hf.B
 unfold begA
 by_cases h5:o.K=5
 ·rw [if_pos h5]
  have:=ho.age h5
  exact one_ok hw hk (by omega) (by omega) 2
 ·rw [if_neg h5]
  by_cases h6:o.K=6
  ·rw [if_pos h6]
   exact {
    who:=hw
    wk:=hk
    hc:=hf.SB.1
    hh:=by show 0 + F.S * F.B≤_; omega
    lc:=hS.1
    l1:=Nat.le_refl _
    l2:=Nat.le_refl _
    cov:=fun H hH => by
     have hH2:H < 0 + F.S * F.B:=hH.2
     have h9:H < F.B * F.S:=by rw [Nat.mul_comm]; omega
     exact ⟨Nat.le_add_right _ _,Nat.add_lt_add_left (Nat.div_lt_of_lt_mul h9) _⟩ }
  ·rw [if_neg h6]
   exact one_ok hw hk h1 h2 _
theorem beg_stg (hf:FFit F C L) {who:Int} (hw:0≤who) {o:OpN} (ho:OpOk F o) (m:MemS) (g:Nat→Nat→Pl):StgOk F m g (begA F who o):=by
 obtain ⟨e1,e2,e3,e4,e5,e6,e7,e8,e9,e10⟩:=beg_mark F who o
 have hlc:=(beg_ok hf hw ho).lc
 rcases e10 with h | ⟨h0,h⟩
 ·exact .inr (.inr (.inl ⟨h,⟨by omega,e1,e8,e7,e5⟩⟩))
 ·have hc:(begA F who o).hc=1:=by
   unfold begA
   rw [if_neg (by omega),if_neg (by omega)]
   rfl
  refine .inr (.inl ⟨h,⟨hc,e2,⟨o.v,o.mc,by rw [e4,h0]; rfl⟩,e1,e8,e7,by rw [e5]; exact Nat.zero_le _,by rw [e9]; exact hf.tr.1,fun h9 => ?_⟩⟩)
  rw [e5] at h9
  exact absurd h9 (by decide)
theorem beg_mu (hf:FFit F C L) {who:Int} {o:OpN} (ho:OpOk F o):muF F (begA F who o) < boundF F:=by
 have hS:=hf.S
 have hB:=hf.B
 have hn:=hf.n
 have htr:=hf.tr
 have key1:∀ k l0 h0,muF F (newA who k l0 1 h0 1 2) < boundF F:=fun k l0 h0 => by
  unfold muF boundF
  rw [if_neg (by show ¬ (2:Nat)=0; decide),if_neg (by show ¬ (2:Nat)=5; decide),if_neg (by show ¬ (2:Nat)=4; decide),if_neg (by show ¬ (2:Nat)=3; decide),if_pos (by show (2:Nat)=2; rfl)]
  show (1 - 0) + (1 * F.W + (1 * (F.W + 1) + 1)) < _
  have hW:F.W=1 + 2 * F.n:=rfl
  have h1:1 * (8 + 8 * F.n)≤F.B * (8 + 8 * F.n):=Nat.mul_le_mul_right _ hB.1
  have h2:1 * (4 + F.B * (8 + 8 * F.n))≤F.S * (4 + F.B * (8 + 8 * F.n)):=Nat.mul_le_mul_right _ hS.1
  omega
 unfold begA
 by_cases h5:o.K=5
 ·rw [if_pos h5]
  exact key1 _ _ _
 ·rw [if_neg h5]
  by_cases h6:o.K=6
  ·rw [if_pos h6]
   unfold muF boundF
   rw [if_neg (by show ¬ (2:Nat)=0; decide),if_neg (by show ¬ (2:Nat)=5; decide),if_neg (by show ¬ (2:Nat)=4; decide),if_neg (by show ¬ (2:Nat)=3; decide),if_pos (by show (2:Nat)=2; rfl)]
   show (F.S - 0) + (F.S * F.B * F.W + (F.S * F.B * (F.W + 1) + F.S)) < _
   have hW:F.W=1 + 2 * F.n:=rfl
   have e1:F.S * (4 + F.B * (8 + 8 * F.n))=F.S * 4 + F.S * F.B * (8 + 8 * F.n):=by rw [Nat.mul_add,Nat.mul_assoc]
   have e2:F.S * F.B * F.W + F.S * F.B * (F.W + 1)≤F.S * F.B * (8 + 8 * F.n):=by
    rw [← Nat.mul_add]
    exact Nat.mul_le_mul_left _ (by omega)
   omega
  ·rw [if_neg h6]
   by_cases h0:o.K=0
   ·rw [if_pos h0]
    unfold muF boundF
    rw [if_neg (by show ¬ (1:Nat)=0; decide),if_neg (by show ¬ (1:Nat)=5; decide),if_neg (by show ¬ (1:Nat)=4; decide),if_neg (by show ¬ (1:Nat)=3; decide),if_neg (by show ¬ (1:Nat)=2; decide)]
    show ((F.tr - 0) * (F.W + 1) - 0) + (1 + (1 * F.W + (1 * (F.W + 1) + 1))) < _
    have hW:F.W=1 + 2 * F.n:=rfl
    have h1:1 * (8 + 8 * F.n)≤F.B * (8 + 8 * F.n):=Nat.mul_le_mul_right _ hB.1
    have h2:1 * (4 + F.B * (8 + 8 * F.n))≤F.S * (4 + F.B * (8 + 8 * F.n)):=Nat.mul_le_mul_right _ hS.1
    have h3:F.tr * (F.W + 1)≤F.tr * (4 + 4 * F.n):=Nat.mul_le_mul_left _ (by omega)
    rw [Nat.sub_zero,Nat.sub_zero]
    omega
   ·rw [if_neg h0]
    exact key1 _ _ _
end
theorem step_vain {F:FcS} {m:MemS} {N:Nat} {A:Nat→FaS} {g:Nat→Nat→Pl} (h:FdbInv F m N A g) {i:Nat} (hi:i < N) (hv:(A i).vain≤F.tr):(stepF F m (A i)).2.vain≤F.tr:=by
 unfold stepF
 by_cases e1:(A i).st=1
 ·rw [if_pos e1]
  have:=((h.stg i hi).one e1).vain
  unfold tryF
  split
  ·exact hv
  ·split
   ·exact hv
   ·show (A i).vain + 1≤F.tr
    omega
 rw [if_neg e1]
 split
 ·unfold takF
  split
  ·exact hv
  ·exact hv
 split
 ·unfold loaF
  show FaS.vain (if _ then _ else _)≤_
  split
  ·exact hv
  ·exact hv
 split
 ·exact hv
 split
 ·unfold freF
  show FaS.vain (if _ then _ else _)≤_
  split
  ·exact hv
  ·exact hv
 ·exact hv
structure RunS where
 m:MemS
 N:Nat
 A:Nat→FaS
 lg:List Nat
 fr:Nat→Int
 tt:Nat→Int
 at_:Nat→Nat
 nw:Nat→Int
 op:Nat→OpN
def sumN (f:Nat→Nat):Nat→Nat
 | 0 => 0
 | k + 1 => sumN f k + f k
theorem sumN_congr {f g:Nat→Nat}:∀ P,(∀ p,p < P→f p=g p)→sumN f P=sumN g P
 | 0,_ => rfl
 | k + 1,h => by rw [sumN,sumN,sumN_congr k fun p hp => h p (by omega),h k (by omega)]
theorem sumN_upd {f g:Nat→Nat} {p:Nat}:∀ P,p < P→(∀ q,q < P→q ≠ p→f q=g q)→sumN f P + g p=sumN g P + f p
 | 0,h,_ => absurd h (by omega)
 | k + 1,h,he => by
  rw [sumN,sumN]
  by_cases e:p=k
  ·subst e
   rw [sumN_congr p fun q hq => he q (by omega) (by omega)]
   omega
  ·have:=sumN_upd k (by omega) fun q hq hne => he q (by omega) hne
   rw [he k (by omega) (Ne.symm e)]
   omega
theorem sumN_le {f:Nat→Nat} {c:Nat}:∀ P,(∀ p,p < P→f p≤c)→sumN f P≤P * c
 | 0,_ => Nat.zero_le _
 | k + 1,h => by
  have h1:=sumN_le k fun p hp => h p (by omega)
  have h2:=h k (by omega)
  rw [sumN,Nat.add_mul,Nat.one_mul]
  omega
def updN (f:Nat→Nat) (k v i:Nat):Nat:=if i=k then v else f i
def updO (f:Nat→OpN) (k:Nat) (v:OpN) (i:Nat):OpN:=if i=k then v else f i
structure RunK (F:FcS) (P:Nat) (ls:Nat→List OpN) (s:RunS) (g:Nat→Nat→Pl):Prop where
 run:RunP F s.m s.N s.A g s.lg s.fr s.tt
 at_:∀ p,p < P→s.at_ p≤(ls p).length
 nw:∀ p,p < P→s.nw p=-1 ∨ ∃ i:Nat,i < s.N∧s.nw p=(i:Int)∧(s.A i).st ≠ 0∧(s.A i).who=(p:Int)
 act:∀ i,i < s.N→(s.A i).st ≠ 0→∃ p,p < P∧(s.A i).who=(p:Int)∧s.nw p=(i:Int)
 N:s.N=sumN s.at_ P
 op:∀ i,i < s.N→OpOk F (s.op i)∧∃ who,Same (begA F who (s.op i)) (s.A i)
 mu:∀ i,i < s.N→muF F (s.A i)≤boundF F
 va:∀ i,i < s.N→(s.A i).vain≤F.tr
def begR (F:FcS) (s:RunS) (p:Nat) (o:OpN):RunS :=
 { s with N:=s.N + 1,A:=updA s.A s.N (begA F p o),fr:=updI s.fr s.N s.m.t,tt:=updI s.tt s.N (-1),at_:=updN s.at_ p (s.at_ p + 1),nw:=updI s.nw p (s.N:Int),op:=updO s.op s.N o }
def goR (F:FcS) (s:RunS) (p i:Nat) (lg:List Nat):RunS :=
 { s with m:=(stepF F s.m (s.A i)).1,A:=updA s.A i (stepF F s.m (s.A i)).2,lg:=lg,tt:=if (stepF F s.m (s.A i)).2.st=0 then updI s.tt i (s.m.t + 1) else s.tt,nw:=if (stepF F s.m (s.A i)).2.st=0 then updI s.nw p (-1) else s.nw }
section
variable {F:FcS} {C L P:Nat} {ls:Nat→List OpN} {s:RunS} {g:Nat→Nat→Pl}
theorem RunK.start (F:FcS) (C L P:Nat) (ls:Nat→List OpN) (A:Nat→FaS) (fr tt:Nat→Int) (op:Nat→OpN):RunK F P ls ⟨⟨C,L,fun _ => 0,fun _ => -1,0⟩,0,A,[],fr,tt,fun _ => 0,fun _ => -1,op⟩ (fun _ _ => pl0) where
 run:=RunP.start F C L A fr tt
 at_:=fun p hp => Nat.zero_le _
 nw:=fun p hp => .inl rfl
 act:=fun i hi => absurd hi (by show ¬ i < 0; omega)
 N:=by
  show 0=sumN (fun _ => 0) P
  induction P with
  | zero => rfl
  | succ k ih => rw [sumN,← ih]
 op:=fun i hi => absurd hi (by show ¬ i < 0; omega)
 mu:=fun i hi => absurd hi (by show ¬ i < 0; omega)
 va:=fun i hi => absurd hi (by show ¬ i < 0; omega)
theorem RunK.beg (h:RunK F P ls s g) (hf:FFit F C L) {p:Nat} (hp:p < P) (hnw:s.nw p=-1) (hat:s.at_ p < (ls p).length) {o:OpN} (ho:OpOk F o):RunK F P ls (begR F s p o) g where
 run:=by
  obtain ⟨e1,e2,e3,e4,e5,e6,e7,e8,e9,e10⟩:=beg_mark F p o
  refine h.run.more (beg_ok hf (by omega) ho) (beg_stg hf (by omega) ho s.m g) e2 ?_ ?_ e1 fun i hi hst e => ?_
  ·rcases e10 with e | ⟨_,e⟩ <;> rw [e] <;> decide
  ·rcases e10 with e | ⟨_,e⟩ <;> rw [e] <;> decide
  ·rw [e3] at e
   obtain ⟨q,hq,h1,h2⟩:=h.act i hi hst
   have:q=p:=by omega
   subst this
   omega
 at_:=fun q hq => by
  show updN s.at_ p (s.at_ p + 1) q≤_
  unfold updN
  split
  ·rename_i e; subst e; exact hat
  ·exact h.at_ q hq
 nw:=fun q hq => by
  show updI s.nw p (s.N:Int) q=-1 ∨ ∃ i:Nat,i < s.N + 1∧updI s.nw p (s.N:Int) q=(i:Int)∧(updA s.A s.N (begA F p o) i).st ≠ 0∧(updA s.A s.N (begA F p o) i).who=(q:Int)
  obtain ⟨e1,e2,e3,e4,e5,e6,e7,e8,e9,e10⟩:=beg_mark F p o
  unfold updI
  by_cases e:q=p
  ·rw [if_pos e]
   refine .inr ⟨s.N,by omega,rfl,?_,?_⟩
   ·rw [updA_same]; rcases e10 with e | ⟨_,e⟩ <;> rw [e] <;> decide
   ·rw [updA_same,e3,e]
  ·rw [if_neg e]
   rcases h.nw q hq with h1 | ⟨i,h1,h2,h3,h4⟩
   ·exact .inl h1
   ·exact .inr ⟨i,by omega,h2,by rw [updA_other _ _ (by omega)]; exact h3,by rw [updA_other _ _ (by omega)]; exact h4⟩
 act:=fun i hi hst => by
  obtain ⟨e1,e2,e3,e4,e5,e6,e7,e8,e9,e10⟩:=beg_mark F p o
  have hi:i < s.N + 1:=hi
  have hst:(updA s.A s.N (begA F p o) i).st ≠ 0:=hst
  show ∃ q,q < P∧(updA s.A s.N (begA F p o) i).who=(q:Int)∧updI s.nw p (s.N:Int) q=(i:Int)
  unfold updI
  by_cases e:i=s.N
  ·subst e
   rw [updA_same]
   exact ⟨p,hp,e3,if_pos rfl⟩
  ·rw [updA_other _ _ e] at hst ⊢
   obtain ⟨q,hq,h1,h2⟩:=h.act i (by omega) hst
   refine ⟨q,hq,h1,?_⟩
   rw [if_neg (fun e => by subst e; omega)]
   exact h2
 N:=by
  show s.N + 1=sumN (updN s.at_ p (s.at_ p + 1)) P
  have:=sumN_upd (f:=updN s.at_ p (s.at_ p + 1)) (g:=s.at_) P hp fun q hq hne => if_neg hne
  have e:updN s.at_ p (s.at_ p + 1) p=s.at_ p + 1:=if_pos rfl
  have:=h.N
  omega
 op:=fun i hi => by
  have hi:i < s.N + 1:=hi
  show OpOk F (updO s.op s.N o i)∧∃ who,Same (begA F who (updO s.op s.N o i)) (updA s.A s.N (begA F p o) i)
  unfold updO
  by_cases e:i=s.N
  ·subst e
   rw [updA_same,if_pos rfl]
   exact ⟨ho,p,Same.rfl_ _⟩
  ·rw [updA_other _ _ e,if_neg e]
   exact h.op i (by omega)
 mu:=fun i hi => by
  have hi:i < s.N + 1:=hi
  show muF F (updA s.A s.N (begA F p o) i)≤_
  by_cases e:i=s.N
  ·subst e
   rw [updA_same]
   exact Nat.le_of_lt (beg_mu hf ho)
  ·rw [updA_other _ _ e]
   exact h.mu i (by omega)
 va:=fun i hi => by
  have hi:i < s.N + 1:=hi
  show (updA s.A s.N (begA F p o) i).vain≤_
  by_cases e:i=s.N
  ·subst e
   rw [updA_same,(beg_mark F p o).2.2.2.2.2.2.2.2.1]
   exact Nat.zero_le _
  ·rw [updA_other _ _ e]
   exact h.va i (by omega)
theorem RunK.go (h:RunK F P ls s g) {p i:Nat} (hp:p < P) (hi:i < s.N) (hnw:s.nw p=(i:Int)) (ht:s.m.t≤4611686018427387904):∃ lg' g',RunK F P ls (goR F s p i lg') g':=by
 obtain ⟨hst,hwho⟩:(s.A i).st ≠ 0∧(s.A i).who=(p:Int):=by
  rcases h.nw p hp with e | ⟨j,h1,h2,h3,h4⟩
  ·omega
  ·have:j=i:=by omega
   subst this
   exact ⟨h3,h4⟩
 obtain ⟨g',lg',hrun⟩:=h.run.step hi ht hst
 obtain ⟨_,_,hs,_,_⟩:=step_went h.run.inv hi h.run.t0 ht hst
 have hmu:muF F (stepF F s.m (s.A i)).2≤boundF F:=by
  by_cases hb:Blocked s.m (s.A i)
  ·rw [blocked_step hb]; exact h.mu i hi
  ·have:=mu_step h.run.inv hi hst hb
   have:=h.mu i hi
   omega
 refine ⟨lg',g',⟨hrun,h.at_,fun q hq => ?_,fun j hj hsj => ?_,h.N,fun j hj => ?_,fun j hj => ?_,fun j hj => ?_⟩⟩
 ·show (if (stepF F s.m (s.A i)).2.st=0 then updI s.nw p (-1) else s.nw) q=-1 ∨ ∃ j:Nat,j < s.N∧(if (stepF F s.m (s.A i)).2.st=0 then updI s.nw p (-1) else s.nw) q=(j:Int)∧(updA s.A i (stepF F s.m (s.A i)).2 j).st ≠ 0∧(updA s.A i (stepF F s.m (s.A i)).2 j).who=(q:Int)
  by_cases e:q=p
  ·subst e
   by_cases h0:(stepF F s.m (s.A i)).2.st=0
   ·rw [if_pos h0]; exact .inl (if_pos rfl)
   ·rw [if_neg h0]
    exact .inr ⟨i,hi,hnw,by rw [updA_same]; exact h0,by rw [updA_same,hs.who]; exact hwho⟩
  ·have e2:(if (stepF F s.m (s.A i)).2.st=0 then updI s.nw p (-1) else s.nw) q=s.nw q:=by
    split
    ·unfold updI; rw [if_neg e]
    ·rfl
   rw [e2]
   rcases h.nw q hq with h1 | ⟨j,h1,h2,h3,h4⟩
   ·exact .inl h1
   ·have hne:j ≠ i:=fun e9 => by subst e9; omega
    exact .inr ⟨j,h1,h2,by rw [updA_other _ _ hne]; exact h3,by rw [updA_other _ _ hne]; exact h4⟩
 ·have hsj:(updA s.A i (stepF F s.m (s.A i)).2 j).st ≠ 0:=hsj
  show ∃ q,q < P∧(updA s.A i (stepF F s.m (s.A i)).2 j).who=(q:Int)∧(if (stepF F s.m (s.A i)).2.st=0 then updI s.nw p (-1) else s.nw) q=(j:Int)
  by_cases e:j=i
  ·subst e
   rw [updA_same] at hsj ⊢
   rw [if_neg hsj]
   exact ⟨p,hp,by rw [hs.who]; exact hwho,hnw⟩
  ·rw [updA_other _ _ e] at hsj ⊢
   obtain ⟨q,hq,h1,h2⟩:=h.act j hj hsj
   refine ⟨q,hq,h1,?_⟩
   have hqp:q ≠ p:=fun e9 => by subst e9; omega
   split
   ·unfold updI; rw [if_neg hqp]; exact h2
   ·exact h2
 ·show OpOk F (s.op j)∧∃ who,Same (begA F who (s.op j)) (updA s.A i (stepF F s.m (s.A i)).2 j)
  by_cases e:j=i
  ·subst e
   rw [updA_same]
   obtain ⟨h1,who,h2⟩:=h.op j hj
   exact ⟨h1,who,⟨hs.who.trans h2.who,hs.wk.trans h2.wk,hs.l0.trans h2.l0,hs.lc.trans h2.lc,hs.h0.trans h2.h0,hs.hc.trans h2.hc⟩⟩
  ·rw [updA_other _ _ e]
   exact h.op j hj
 ·show muF F (updA s.A i (stepF F s.m (s.A i)).2 j)≤_
  by_cases e:j=i
  ·subst e; rw [updA_same]; exact hmu
  ·rw [updA_other _ _ e]; exact h.mu j hj
 ·show (updA s.A i (stepF F s.m (s.A i)).2 j).vain≤_
  by_cases e:j=i
  ·subst e; rw [updA_same]; exact step_vain h.run.inv hj (h.va j hj)
  ·rw [updA_other _ _ e]; exact h.va j hj
def muO (F:FcS) (ls:Nat→List OpN) (s:RunS) (p:Nat):Nat:=((ls p).length - s.at_ p) * boundF F + if s.nw p=-1 then 0 else muF F (s.A (s.nw p).toNat)
def muR (F:FcS) (P:Nat) (ls:Nat→List OpN) (Q:Nat→Bool) (s:RunS):Nat:=sumN (fun p => if Q p=true then muO F ls s p else 0) P
def leftO (ls:Nat→List OpN) (s:RunS) (p:Nat):Nat:=(ls p).length - s.at_ p + if s.nw p=-1 then 0 else 1
def leftR (P:Nat) (ls:Nat→List OpN) (s:RunS):Nat:=sumN (leftO ls s) P
theorem RunK.le (h:RunK F P ls s g) (Q:Nat→Bool):muR F P ls Q s≤leftR P ls s * boundF F:=by
 have key:∀ k,k≤P→sumN (fun p => if Q p=true then muO F ls s p else 0) k≤sumN (leftO ls s) k * boundF F:=fun k => by
  induction k with
  | zero => exact fun _ => Nat.zero_le _
  | succ k ih =>
   intro hk
   have h1:=ih (by omega)
   rw [sumN,sumN,Nat.add_mul]
   have h2:muO F ls s k≤leftO ls s k * boundF F:=by
    unfold muO leftO
    rw [Nat.add_mul]
    rcases h.nw k (by omega) with e | ⟨i,hi,e,_,_⟩
    ·rw [if_pos e,if_pos e,Nat.zero_mul]
     exact Nat.le_refl _
    ·rw [if_neg (by omega),if_neg (by omega),Nat.one_mul,e,Int.toNat_natCast]
     have:=h.mu i hi
     omega
   by_cases e:Q k=true
   ·rw [if_pos e]; omega
   ·rw [if_neg e]; omega
 exact key P (Nat.le_refl P)
theorem RunK.go_mu (h:RunK F P ls s g) {p i:Nat} (hp:p < P) (hi:i < s.N) (hnw:s.nw p=(i:Int)) (lg':List Nat) (hb:¬ Blocked s.m (s.A i)) {Q:Nat→Bool} (hQ:Q p=true):muR F P ls Q (goR F s p i lg') < muR F P ls Q s:=by
 obtain ⟨hst,hwho⟩:(s.A i).st ≠ 0∧(s.A i).who=(p:Int):=by
  rcases h.nw p hp with e | ⟨j,h1,h2,h3,h4⟩
  ·omega
  ·have:j=i:=by omega
   subst this
   exact ⟨h3,h4⟩
 have h1:=mu_step h.run.inv hi hst hb
 have hsum:=sumN_upd (f:=fun q => if Q q=true then muO F ls (goR F s p i lg') q else 0) (g:=fun q => if Q q=true then muO F ls s q else 0) (p:=p) P hp (fun q hq hne => by
  show (if Q q=true then muO F ls (goR F s p i lg') q else 0)=if Q q=true then muO F ls s q else 0
  have e2:(goR F s p i lg').nw q=s.nw q:=by
   show (if (stepF F s.m (s.A i)).2.st=0 then updI s.nw p (-1) else s.nw) q=s.nw q
   split
   ·unfold updI; rw [if_neg hne]
   ·rfl
  have e3:muO F ls (goR F s p i lg') q=muO F ls s q:=by
   unfold muO
   rw [e2]
   show ((ls q).length - s.at_ q) * boundF F + _=_
   rcases h.nw q hq with e | ⟨j,hj,e,_,_⟩
   ·rw [if_pos e,if_pos e]
   ·have hne2:j ≠ i:=fun e9 => by
     subst e9
     rcases h.nw q hq with e8 | ⟨j',_,e8,_,e7⟩
     ·omega
     ·have:j'=j:=by omega
      subst this
      omega
    rw [if_neg (by omega),if_neg (by omega),e,Int.toNat_natCast]
    show _ + muF F (updA s.A i (stepF F s.m (s.A i)).2 j)=_
    rw [updA_other _ _ hne2]
  rw [e3])
 have e4:muO F ls (goR F s p i lg') p < muO F ls s p:=by
  unfold muO
  rw [show (goR F s p i lg').at_ p=s.at_ p from rfl,hnw,if_neg (show ¬ (i:Int)=-1 by omega),Int.toNat_natCast]
  have:(if (goR F s p i lg').nw p=-1 then 0 else muF F ((goR F s p i lg').A ((goR F s p i lg').nw p).toNat))≤muF F (stepF F s.m (s.A i)).2:=by
   by_cases h0:(stepF F s.m (s.A i)).2.st=0
   ·have e5:(goR F s p i lg').nw p=-1:=by
     show (if (stepF F s.m (s.A i)).2.st=0 then updI s.nw p (-1) else s.nw) p=-1
     rw [if_pos h0]
     exact if_pos rfl
    rw [if_pos e5]
    exact Nat.zero_le _
   ·have e5:(goR F s p i lg').nw p=(i:Int):=by
     show (if (stepF F s.m (s.A i)).2.st=0 then updI s.nw p (-1) else s.nw) p=_
     rw [if_neg h0,hnw]
    rw [e5,if_neg (by omega),Int.toNat_natCast]
    show muF F (updA s.A i (stepF F s.m (s.A i)).2 i)≤_
    rw [updA_same]
    exact Nat.le_refl _
  omega
 unfold muR
 simp only [hQ,if_true] at hsum
 omega
theorem RunK.beg_mu (h:RunK F P ls s g) (hf:FFit F C L) {p:Nat} (hp:p < P) (hnw:s.nw p=-1) (hat:s.at_ p < (ls p).length) {o:OpN} (ho:OpOk F o) {Q:Nat→Bool} (hQ:Q p=true):muR F P ls Q (begR F s p o) < muR F P ls Q s:=by
 have hsum:=sumN_upd (f:=fun q => if Q q=true then muO F ls (begR F s p o) q else 0) (g:=fun q => if Q q=true then muO F ls s q else 0) (p:=p) P hp (fun q hq hne => by
  show (if Q q=true then muO F ls (begR F s p o) q else 0)=if Q q=true then muO F ls s q else 0
  have e3:muO F ls (begR F s p o) q=muO F ls s q:=by
   unfold muO
   rw [show (begR F s p o).nw q=s.nw q from if_neg hne,show (begR F s p o).at_ q=s.at_ q from if_neg hne]
   rcases h.nw q hq with e | ⟨j,hj,e,_,_⟩
   ·rw [if_pos e,if_pos e]
   ·rw [if_neg (by omega),if_neg (by omega),e,Int.toNat_natCast]
    show _ + muF F (updA s.A s.N (begA F p o) j)=_
    rw [updA_other _ _ (by omega)]
  rw [e3])
 have e4:muO F ls (begR F s p o) p < muO F ls s p:=by
  unfold muO
  rw [show (begR F s p o).nw p=(s.N:Int) from if_pos rfl,show (begR F s p o).at_ p=s.at_ p + 1 from if_pos rfl,hnw,if_pos rfl,if_neg (by omega),Int.toNat_natCast]
  show _ + muF F (updA s.A s.N (begA F p o) s.N) < _
  rw [updA_same]
  have h1:=Go.Proofs.Ythloabdfkakehaa.beg_mu hf (who:=(p:Int)) ho
  have h2:((ls p).length - s.at_ p)=((ls p).length - (s.at_ p + 1)) + 1:=by omega
  rw [h2,Nat.add_mul,Nat.one_mul]
  omega
 unfold muR
 simp only [hQ,if_true] at hsum
 omega
theorem RunK.dead (h:RunK F P ls s g) {Q:Nat→Bool} (hQ:∀ p,p < P→Q p=false→∀ i:Nat,s.nw p=(i:Int)→(s.A i).held=0)
  (hb:∀ p,p < P→Q p=true→(s.nw p=-1∧s.at_ p=(ls p).length) ∨ ∃ i:Nat,s.nw p=(i:Int)∧Blocked s.m (s.A i)):∀ p,p < P→Q p=true→s.nw p=-1∧s.at_ p=(ls p).length:=by
 have key:=no_dead h.run (fun i => (s.A i).st ≠ 0→∃ p,p < P∧Q p=true∧s.nw p=(i:Int)) (fun i hi hn => ?_) (fun i hi hp hst => ?_)
 ·intro p hp hq
  rcases hb p hp hq with h1 | ⟨i,h1,h2⟩
  ·exact h1
  ·exfalso
   rcases h.nw p hp with e | ⟨j,hj,e,hst,_⟩
   ·omega
   ·have:j=i:=by omega
    subst this
    exact hst (key j hj fun _ => ⟨p,hp,hq,h1⟩)
 ·rcases Nat.decEq (s.A i).st 0 with h0 | h0
  ·obtain ⟨p,hp,_,h2⟩:=h.act i hi h0
   cases hq:Q p
   ·exact hQ p hp hq i h2
   ·exact absurd (fun _ => ⟨p,hp,hq,h2⟩) hn
  ·exact (h.run.inv.stg i hi).held0 h0
 ·obtain ⟨p,hp1,hq,h2⟩:=hp hst
  rcases hb p hp1 hq with ⟨h1,_⟩ | ⟨j,h1,h3⟩
  ·omega
  ·have:j=i:=by omega
   subst this
   exact h3
end
end Go.Proofs.Ythloabdfkakehaa
