/-
  Words and contracts that a statement's proof rests on (PlainFf). No statement is proved here.
-/
import Derived.Test.YthloabdfkakehaaPlainFe
set_option linter.unusedVariables false
set_option linter.unusedSimpArgs false
namespace Go.Proofs.Ythloabdfkakehaa
def bkM (F:FcS) (c:Nat→Int) (H:Nat):Nat→Pl:=decF fun x => c (F.cell H + 1 + x)
def Cov (a:FaS) (H:Nat):Prop:=a.h0≤H∧H < a.h0 + a.hc
structure ActOk (F:FcS) (a:FaS):Prop where
 who:0≤a.who
 wk:a.wk.ok
 hc:1≤a.hc
 hh:a.h0 + a.hc≤F.S * F.B
 lc:1≤a.lc
 l1:F.lk≤a.l0
 l2:a.l0 + a.lc≤F.lk + F.S
 cov:∀ H,Cov a H→a.l0≤F.lk + H / F.B∧F.lk + H / F.B < a.l0 + a.lc
structure St1 (F:FcS) (m:MemS) (a:FaS):Prop where
 hc:a.hc=1
 held:a.held=0
 look:∃ v q,a.wk=.look v q
 mark:a.mark=0
 wt:a.wt=0
 ans:a.ans=0
 len:a.ld.length≤F.W
 vain:a.vain < F.tr
 rd:0 < a.ld.length→a.ld.getD 0 0≤m.c (F.cell a.h0)∧(a.ld.getD 0 0 % 2=0→m.c (F.cell a.h0)=a.ld.getD 0 0→∀ x,x < a.ld.length→a.ld.getD x 0=m.c (F.cell a.h0 + x))
structure St2 (F:FcS) (a:FaS):Prop where
 held:a.held < a.lc
 mark:a.mark=0
 wt:a.wt=0
 ans:a.ans=0
 ld:a.ld=[]
structure St3 (F:FcS) (m:MemS) (a:FaS):Prop where
 held:a.held=a.lc
 mark:a.mark=0
 wt:a.wt=0
 ans:a.ans=0
 len:a.ld.length < a.hc * F.W
 rd:∀ x,x < a.ld.length→a.ld.getD x 0=m.c (F.cell a.h0 + x)
structure St4 (F:FcS) (m:MemS) (g:Nat→Nat→Pl) (a:FaS):Prop where
 held:a.held=a.lc
 len:a.ld.length=a.hc * F.W
 wr:a.wr=wrL F a.wk a.ld a.h0 a.hc
 od:a.od=(oddsL F a.wk a.ld a.h0 a.hc).length
 wt:a.wt≤a.wr.length
 ev:∀ j,j < a.hc→a.ld.getD (j * F.W) 0 % 2=0∧0≤a.ld.getD (j * F.W) 0∧a.ld.getD (j * F.W) 0≤4611686018427387904
 rng:∀ j i,j < a.hc→goodP (segF F a.ld j i)
 mem:∀ x,x < a.hc * F.W→m.c (F.cell a.h0 + x)=putsC (fun y => a.ld.getD (y - F.cell a.h0) 0) (a.wr.take a.wt) (F.cell a.h0 + x)
 ans:a.ans=cameS F a.wk a.ld a.hc
 pre:a.wt < a.od→a.mark=0∧∀ j,j < a.hc→eqP F.n (g (a.h0 + j)) (segF F a.ld j)
 post:a.od≤a.wt→0 < a.mark∧∀ j,j < a.hc→eqP F.n (g (a.h0 + j)) (isF F a.wk a.ld j)
structure St5 (a:FaS):Prop where
 held:1≤a.held
 le:a.held≤a.lc
 mark:0 < a.mark
def StgOk (F:FcS) (m:MemS) (g:Nat→Nat→Pl) (a:FaS):Prop :=
 (a.st=0∧a.held=0∧0 < a.mark) ∨ (a.st=1∧St1 F m a) ∨ (a.st=2∧St2 F a) ∨ (a.st=3∧St3 F m a) ∨ (a.st=4∧St4 F m g a∧a.wt < a.wr.length) ∨ (a.st=5∧St5 a)
def updA (A:Nat→FaS) (i:Nat) (a:FaS) (j:Nat):FaS:=if j=i then a else A j
structure FdbInv (F:FcS) (m:MemS) (N:Nat) (A:Nat→FaS) (g:Nat→Nat→Pl):Prop where
 ok:∀ i,i < N→ActOk F (A i)
 stg:∀ i,i < N→StgOk F m g (A i)
 own:∀ i,i < N→∀ x,x < (A i).held→m.h ((A i).l0 + x)=(A i).who
 uniq:∀ i j,i < N→j < N→i ≠ j→(A i).st ≠ 0→(A j).st ≠ 0→(A i).who ≠ (A j).who
 idle:∀ H,H < F.S * F.B→(∀ i,i < N→(A i).st=4→¬ Cov (A i) H)→m.c (F.cell H) % 2=0∧eqP F.n (bkM F m.c H) (g H)
 ctr:∀ H,H < F.S * F.B→0≤m.c (F.cell H)∧m.c (F.cell H)≤m.t
 rng:∀ H,H < F.S * F.B→∀ x,x < 2 * F.n→m.c (F.cell H + 1 + x) < 18446744073709551616
 good:∀ H i,goodP (g H i)
section
variable {F:FcS} {m:MemS} {N:Nat} {A:Nat→FaS} {g:Nat→Nat→Pl}
theorem StgOk.held0 {a:FaS} (h:StgOk F m g a) (hs:a.st=0):a.held=0:=by
 rcases h with ⟨_,h,_⟩ | ⟨h,_⟩ | ⟨h,_⟩ | ⟨h,_⟩ | ⟨h,_⟩ | ⟨h,_⟩
 ·exact h
 all_goals (exfalso; omega)
theorem StgOk.le {a:FaS} (h:StgOk F m g a):a.held≤a.lc:=by
 rcases h with ⟨_,h,_⟩ | ⟨_,h⟩ | ⟨_,h⟩ | ⟨_,h⟩ | ⟨_,h⟩ | ⟨_,h⟩
 ·omega
 ·have:=h.held; omega
 ·have:=h.held; omega
 ·have:=h.held; omega
 ·have:=h.1.held; omega
 ·exact h.le
theorem StgOk.one {a:FaS} (h:StgOk F m g a) (hs:a.st=1):St1 F m a:=by
 rcases h with ⟨e,_⟩ | ⟨e,h⟩ | ⟨e,h⟩ | ⟨e,h⟩ | ⟨e,h⟩ | ⟨e,h⟩
 ·omega
 ·exact h
 all_goals (exfalso; omega)
theorem StgOk.two {a:FaS} (h:StgOk F m g a) (hs:a.st=2):St2 F a:=by
 rcases h with ⟨e,_⟩ | ⟨e,h⟩ | ⟨e,h⟩ | ⟨e,h⟩ | ⟨e,h⟩ | ⟨e,h⟩
 ·omega
 ·omega
 ·exact h
 all_goals (exfalso; omega)
theorem StgOk.three {a:FaS} (h:StgOk F m g a) (hs:a.st=3):St3 F m a:=by
 rcases h with ⟨e,_⟩ | ⟨e,h⟩ | ⟨e,h⟩ | ⟨e,h⟩ | ⟨e,h⟩ | ⟨e,h⟩
 ·omega
 ·omega
 ·omega
 ·exact h
 all_goals (exfalso; omega)
theorem StgOk.four {a:FaS} (h:StgOk F m g a) (hs:a.st=4):St4 F m g a∧a.wt < a.wr.length:=by
 rcases h with ⟨e,_⟩ | ⟨e,h⟩ | ⟨e,h⟩ | ⟨e,h⟩ | ⟨e,h⟩ | ⟨e,h⟩
 ·omega
 ·omega
 ·omega
 ·omega
 ·exact h
 ·omega
theorem StgOk.five {a:FaS} (h:StgOk F m g a) (hs:a.st=5):St5 a:=by
 rcases h with ⟨e,_⟩ | ⟨e,h⟩ | ⟨e,h⟩ | ⟨e,h⟩ | ⟨e,h⟩ | ⟨e,h⟩
 ·omega
 ·omega
 ·omega
 ·omega
 ·omega
 ·exact h
theorem StgOk.le5 {a:FaS} (h:StgOk F m g a):a.st≤5:=by
 rcases h with ⟨e,_⟩ | ⟨e,h⟩ | ⟨e,h⟩ | ⟨e,h⟩ | ⟨e,h⟩ | ⟨e,h⟩ <;> omega
theorem FdbInv.lock_one (h:FdbInv F m N A g) {i j x y:Nat} (hi:i < N) (hj:j < N) (hx:x < (A i).held) (hy:y < (A j).held) (e:(A i).l0 + x=(A j).l0 + y):i=j:=by
 rcases Nat.decEq i j with hne | he
 ·exfalso
  have h1:=h.own i hi x hx
  have h2:=h.own j hj y hy
  rw [e] at h1
  refine h.uniq i j hi hj hne (fun h0 => ?_) (fun h0 => ?_) (h1.symm.trans h2)
  ·have:=(h.stg i hi).held0 h0; omega
  ·have:=(h.stg j hj).held0 h0; omega
 ·exact he
theorem FdbInv.excl (h:FdbInv F m N A g) {i j H:Nat} (hi:i < N) (hj:j < N) (hx:(A i).held=(A i).lc) (hy:(A j).held=(A j).lc) (c1:Cov (A i) H) (c2:Cov (A j) H):i=j:=by
 obtain ⟨a1,a2⟩:=(h.ok i hi).cov H c1
 obtain ⟨b1,b2⟩:=(h.ok j hj).cov H c2
 exact h.lock_one hi hj (x:=F.lk + H / F.B - (A i).l0) (y:=F.lk + H / F.B - (A j).l0) (by omega) (by omega) (by omega)
theorem bkM_eq {c c':Nat→Int} {H:Nat} (h:∀ x,x < 2 * F.n→c (F.cell H + 1 + x)=c' (F.cell H + 1 + x)):eqP F.n (bkM F c H) (bkM F c' H):=fun i hi => by
 unfold bkM decF
 show decP (c _) (c _)=decP (c' _) (c' _)
 rw [h (2 * i) (by omega),h (2 * i + 1) (by omega)]
theorem seg_bkM {ld:List Int} {c:Nat→Int} {h0 j:Nat} (h:∀ x,x < F.W→ld.getD (j * F.W + x) 0=c (F.cell (h0 + j) + x)):eqP F.n (segF F ld j) (bkM F c (h0 + j)):=fun i hi => by
 unfold segF bkM decF
 show decP (ld.getD _ _) (ld.getD _ _)=decP (c _) (c _)
 have hW:F.W=1 + 2 * F.n:=rfl
 have h1:=h (1 + 2 * i) (by omega)
 have h2:=h (1 + (2 * i + 1)) (by omega)
 rw [show j * F.W + 1 + 2 * i=j * F.W + (1 + 2 * i) by omega,show j * F.W + 1 + (2 * i + 1)=j * F.W + (1 + (2 * i + 1)) by omega,h1,h2]
 congr 2 <;> omega
theorem mulW {j hc:Nat} (h:j < hc):j * F.W + F.W≤hc * F.W:=by
 have:=Nat.mul_le_mul_right F.W (show j + 1≤hc from h)
 rw [Nat.add_mul,Nat.one_mul] at this
 exact this
variable {a:FaS}
theorem St4.part (h:St4 F m g a) {j:Nat} (hj:j < a.hc):∃ p,p=(a.wr.take a.wt).filter (fun x => inB8 F (a.h0 + j) x.1)∧p <+: seqB F a.wk a.ld a.h0 j ∧
  ∀ x,x < F.W→m.c (F.cell (a.h0 + j) + x)=putsC (fun y => a.ld.getD (y - F.cell a.h0) 0) p (F.cell (a.h0 + j) + x):=by
 refine ⟨_,rfl,?_,fun x hx => ?_⟩
 ·rw [← wr_filter F a.wk a.ld a.h0 hj,← h.wr]
  exact (List.take_prefix _ _).filter _
 ·have hm:=mulW (F:=F) hj
  have:=h.mem (j * F.W + x) (by omega)
  rw [show F.cell a.h0 + (j * F.W + x)=F.cell (a.h0 + j) + x by rw [cell_add]; omega] at this
  rw [this]
  exact putsC_filter (inB8 F (a.h0 + j)) _ _ _ (fun _ _ => rfl) _ (inB8_self F _ x hx)
theorem seq_no {j:Nat} (hc:chgB F a.wk a.ld j=false):seqB F a.wk a.ld a.h0 j=[]:=by
 unfold seqB odd1 words1 even1
 rw [hc]
 rfl
theorem seq_yes {j:Nat} (hc:chgB F a.wk a.ld j=true):seqB F a.wk a.ld a.h0 j=[(F.cell (a.h0 + j),oddI (a.ld.getD (j * F.W) 0))] ++ (chgL (F.cell (a.h0 + j) + 1) (segF F a.ld j) (isF F a.wk a.ld j) F.n ++ [(F.cell (a.h0 + j),evenI (a.ld.getD (j * F.W) 0))]):=by
 unfold seqB odd1 words1 even1
 rw [if_pos hc,if_pos hc,if_pos hc]
theorem words_far {H:Nat} {f g:Nat→Pl} {n:Nat} (c:Nat→Int) {q:List (Nat × Int)} (hq:q <+: chgL (F.cell H + 1) f g n):putsC c q (F.cell H)=c (F.cell H) :=
 putsC_far c q _ fun x hx => by
  have:=chgL_in _ _ _ _ x (hq.subset hx)
  omega
theorem St4.none_ (h:St4 F m g a) {j:Nat} (hm:∀ x,x < F.W→m.c (F.cell (a.h0 + j) + x)=putsC (fun y => a.ld.getD (y - F.cell a.h0) 0) [] (F.cell (a.h0 + j) + x)) :
  m.c (F.cell (a.h0 + j))=a.ld.getD (j * F.W) 0∧eqP F.n (bkM F m.c (a.h0 + j)) (segF F a.ld j):=by
 have e:∀ x,x < F.W→a.ld.getD (j * F.W + x) 0=m.c (F.cell (a.h0 + j) + x):=fun x hx => by
  rw [hm x hx]
  show _=a.ld.getD (F.cell (a.h0 + j) + x - F.cell a.h0) 0
  rw [cell_add,show F.cell a.h0 + j * F.W + x - F.cell a.h0=j * F.W + x by omega]
 refine ⟨?_,fun i hi => (seg_bkM e i hi).symm⟩
 have:=e 0 F.W_pos
 rw [Nat.add_zero,Nat.add_zero] at this
 exact this.symm
theorem St4.some_ (h:St4 F m g a) {j:Nat} (hj:j < a.hc) {q:List (Nat × Int)} (hq:q <+: chgL (F.cell (a.h0 + j) + 1) (segF F a.ld j) (isF F a.wk a.ld j) F.n)
  (hm:∀ x,x < F.W→m.c (F.cell (a.h0 + j) + x)=putsC (fun y => a.ld.getD (y - F.cell a.h0) 0) ((F.cell (a.h0 + j),oddI (a.ld.getD (j * F.W) 0)) :: q) (F.cell (a.h0 + j) + x)) :
  m.c (F.cell (a.h0 + j))=a.ld.getD (j * F.W) 0 + 1:=by
 have:=hm 0 F.W_pos
 rw [Nat.add_zero,putsC,words_far _ hq,if_pos rfl] at this
 obtain ⟨e1,e2,_⟩:=h.ev j hj
 rw [this,oddI_even e2 e1]
theorem St4.all_ (h:St4 F m g a) (hok:a.wk.ok) {j:Nat} (hj:j < a.hc)
  (hm:∀ x,x < F.W→m.c (F.cell (a.h0 + j) + x)=putsC (fun y => a.ld.getD (y - F.cell a.h0) 0) ((F.cell (a.h0 + j),oddI (a.ld.getD (j * F.W) 0)) :: (chgL (F.cell (a.h0 + j) + 1) (segF F a.ld j) (isF F a.wk a.ld j) F.n ++ [(F.cell (a.h0 + j),evenI (a.ld.getD (j * F.W) 0))])) (F.cell (a.h0 + j) + x)) :
  m.c (F.cell (a.h0 + j))=a.ld.getD (j * F.W) 0 + 2∧eqP F.n (bkM F m.c (a.h0 + j)) (isF F a.wk a.ld j):=by
 obtain ⟨e1,e2,e3⟩:=h.ev j hj
 have hg:∀ i,goodP (isF F a.wk a.ld j i):=fun i => wk_good (fun i => h.rng j i hj) F.n hok i
 constructor
 ·have:=hm 0 F.W_pos
  rw [Nat.add_zero,putsC,putsC_snoc,if_pos rfl] at this
  rw [this,evenI_even e2 e1 e3]
 ·intro i hi
  have hW:F.W=1 + 2 * F.n:=rfl
  have h1:=hm (1 + 2 * i) (by omega)
  have h2:=hm (1 + (2 * i + 1)) (by omega)
  rw [putsC,putsC_snoc,if_neg (by show ¬ _=F.cell (a.h0 + j); omega)] at h1 h2
  rw [show F.cell (a.h0 + j) + (1 + 2 * i)=F.cell (a.h0 + j) + 1 + 2 * i by omega] at h1
  rw [show F.cell (a.h0 + j) + (1 + (2 * i + 1))=F.cell (a.h0 + j) + 1 + (2 * i + 1) by omega] at h2
  unfold bkM decF
  show decP (m.c _) (m.c _)=_
  rw [h1,h2]
  refine chgL_puts F (Nat.le_refl _) _ _ _ hg (fun i hi => ?_) i hi
  rw [if_neg (by show ¬ _=F.cell (a.h0 + j); omega),if_neg (by show ¬ _=F.cell (a.h0 + j); omega)]
  unfold segF decF
  rw [cell_add]
  congr 2 <;> omega
theorem eqP.symm {n:Nat} {f g:Nat→Pl} (h:eqP n f g):eqP n g f:=fun i hi => (h i hi).symm
theorem eqP.trans {n:Nat} {f g k:Nat→Pl} (h:eqP n f g) (h':eqP n g k):eqP n f k:=fun i hi => (h i hi).trans (h' i hi)
theorem filter_prefix {l l':List (Nat × Int)} (p:Nat→Bool) (h:l <+: l'):l.filter (fun x => p x.1) <+: l'.filter (fun x => p x.1):=h.filter _
theorem St4.bk (h:St4 F m g a) (hok:a.wk.ok) {j:Nat} (hj:j < a.hc):a.ld.getD (j * F.W) 0≤m.c (F.cell (a.h0 + j))∧(m.c (F.cell (a.h0 + j)) % 2=0→eqP F.n (bkM F m.c (a.h0 + j)) (g (a.h0 + j))):=by
 obtain ⟨p,hp,hpre,hmem⟩:=h.part hj
 obtain ⟨e1,e2,e3⟩:=h.ev j hj
 cases hc:chgB F a.wk a.ld j
 ·rw [seq_no hc,List.prefix_nil] at hpre
  rw [hpre] at hmem
  obtain ⟨h1,h2⟩:=h.none_ hmem
  refine ⟨by omega,fun _ => ?_⟩
  rcases Nat.lt_or_ge a.wt a.od with hw | hw
  ·exact h2.trans ((h.pre hw).2 j hj).symm
  ·have h3:eqP F.n (segF F a.ld j) (isF F a.wk a.ld j):=difB_iff.1 hc
   exact h2.trans (h3.trans ((h.post hw).2 j hj).symm)
 ·rw [seq_yes hc] at hpre
  rcases prefix3 hpre with e | ⟨q,e,hq⟩ | e
  ·have hw:a.wt < a.od:=by
    rcases Nat.lt_or_ge a.wt a.od with hw | hw
    ·exact hw
    ·exfalso
     have hx:oddsL F a.wk a.ld a.h0 a.hc <+: a.wr.take a.wt:=by
      rw [h.wr,List.prefix_take_iff]
      exact ⟨List.prefix_append _ _,by rw [← h.od]; exact hw⟩
     have hy:=filter_prefix (inB8 F (a.h0 + j)) hx
     rw [← hp,e,odds_gath,gath_filter (odd1_in F a.wk a.ld a.h0),if_pos hj] at hy
     unfold odd1 at hy
     rw [if_pos hc] at hy
     simp at hy
   rw [e] at hmem
   obtain ⟨h1,h2⟩:=h.none_ hmem
   exact ⟨by omega,fun _ => h2.trans ((h.pre hw).2 j hj).symm⟩
  ·rw [e] at hmem
   have:=h.some_ hj hq hmem
   exact ⟨by omega,fun h9 => by omega⟩
  ·have hw:a.od≤a.wt:=by
    rcases Nat.lt_or_ge a.wt a.od with hw | hw
    ·exfalso
     have hx:a.wr.take a.wt <+: oddsL F a.wk a.ld a.h0 a.hc:=by
      rw [h.wr,wrL,List.take_append_of_le_length (by rw [← h.od]; omega)]
      exact List.take_prefix _ _
     have hy:=filter_prefix (inB8 F (a.h0 + j)) hx
     rw [← hp,e,odds_gath,gath_filter (odd1_in F a.wk a.ld a.h0),if_pos hj] at hy
     have:=hy.length_le
     unfold odd1 at this
     rw [if_pos hc] at this
     simp at this
    ·exact hw
   rw [e] at hmem
   obtain ⟨h1,h2⟩:=h.all_ hok hj hmem
   exact ⟨by omega,fun _ => h2.trans ((h.post hw).2 j hj).symm⟩
theorem St4.done (h:St4 F m g a) (hok:a.wk.ok) (hw:a.wt=a.wr.length) {j:Nat} (hj:j < a.hc):m.c (F.cell (a.h0 + j)) % 2=0:=by
 obtain ⟨p,hp,hpre,hmem⟩:=h.part hj
 obtain ⟨e1,e2,e3⟩:=h.ev j hj
 rw [hw,List.take_length] at hp
 have hp2:p=seqB F a.wk a.ld a.h0 j:=by rw [hp,h.wr,wr_filter F a.wk a.ld a.h0 hj]
 cases hc:chgB F a.wk a.ld j
 ·rw [seq_no hc] at hp2
  rw [hp2] at hmem
  have:=(h.none_ hmem).1
  omega
 ·rw [seq_yes hc] at hp2
  rw [hp2] at hmem
  have:=(h.all_ hok hj hmem).1
  omega
end
end Go.Proofs.Ythloabdfkakehaa
