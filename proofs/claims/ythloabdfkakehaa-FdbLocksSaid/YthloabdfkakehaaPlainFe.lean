/-
  Words and contracts that a statement's proof rests on (PlainFe). No statement is proved here.
-/
import Derived.Test.YthloabdfkakehaaPlainFd
set_option linter.unusedVariables false
set_option linter.unusedSimpArgs false
namespace Go.Proofs.Ythloabdfkakehaa
def putsC (c:Nat→Int):List (Nat × Int)→Nat→Int
 | [] => c
 | x :: l => putsC (fun y => if y=x.1 then x.2 else c y) l
theorem putsC_append (c:Nat→Int):∀ l l',putsC c (l ++ l')=putsC (putsC c l) l'
 | [],_ => rfl
 | x :: l,l' => putsC_append _ l l'
theorem putsC_snoc (c:Nat→Int) (l:List (Nat × Int)) (x:Nat × Int) (y:Nat):putsC c (l ++ [x]) y=if y=x.1 then x.2 else putsC c l y:=by
 rw [putsC_append]
 rfl
theorem putsC_filter (p:Nat→Bool):∀ (l:List (Nat × Int)) (c c':Nat→Int),(∀ y,p y=true→c y=c' y)→∀ y,p y=true→putsC c l y=putsC c' (l.filter fun x => p x.1) y
 | [],c,c',h,y,hy => h y hy
 | x :: l,c,c',h,y,hy => by
  rw [putsC]
  by_cases hx:p x.1=true
  ·rw [List.filter_cons_of_pos (by simpa using hx),putsC]
   exact putsC_filter p l _ _ (fun z hz => by
    show (if _ then _ else _)=if _ then _ else _
    rw [h z hz]) y hy
  ·rw [List.filter_cons_of_neg (by simpa using hx)]
   exact putsC_filter p l _ _ (fun z hz => by
    show (if _ then _ else _)=_
    rw [if_neg (fun e => hx (by rw [← e]; exact hz))]
    exact h z hz) y hy
theorem putsC_far (c:Nat→Int):∀ (l:List (Nat × Int)) (y:Nat),(∀ x ∈ l,x.1 ≠ y)→putsC c l y=c y
 | [],_,_ => rfl
 | x :: l,y,h => by
  rw [putsC,putsC_far _ l y (fun z hz => h z (List.mem_cons_of_mem _ hz)),if_neg (fun e => h x (List.mem_cons_self ..) e.symm)]
def inB8 (F:FcS) (H y:Nat):Bool:=decide (F.cell H≤y∧y < F.cell H + F.W)
theorem inB8_iff {F:FcS} {H y:Nat}:inB8 F H y=true ↔ F.cell H≤y∧y < F.cell H + F.W:=by simp [inB8]
theorem FcS.W_pos (F:FcS):1≤F.W:=by unfold FcS.W; omega
theorem cell_succ (F:FcS) (H:Nat):F.cell (H + 1)=F.cell H + F.W:=by unfold FcS.cell; rw [Nat.add_mul,Nat.one_mul]; omega
theorem cell_le (F:FcS) {H H':Nat} (h:H≤H'):F.cell H≤F.cell H':=by
 unfold FcS.cell
 have:=Nat.mul_le_mul_right F.W h
 omega
theorem cell_lt (F:FcS) {H H':Nat} (h:H < H'):F.cell H + F.W≤F.cell H':=by
 have:=cell_le F (show H + 1≤H' from h)
 rw [cell_succ] at this
 exact this
theorem cell_add (F:FcS) (H j:Nat):F.cell (H + j)=F.cell H + j * F.W:=by unfold FcS.cell; rw [Nat.add_mul]; omega
theorem inB8_self (F:FcS) (H x:Nat) (hx:x < F.W):inB8 F H (F.cell H + x)=true:=inB8_iff.2 ⟨by omega,by omega⟩
theorem inB8_uniq {F:FcS} {H H' y:Nat} (h:inB8 F H y=true) (h':inB8 F H' y=true):H=H':=by
 rw [inB8_iff] at h h'
 rcases Nat.lt_trichotomy H H' with hl | he | hl
 ·have:=cell_lt F hl; omega
 ·exact he
 ·have:=cell_lt F hl; omega
theorem inB8_other {F:FcS} {H H' y:Nat} (h:inB8 F H y=true) (hne:H ≠ H'):inB8 F H' y=false:=by
 cases e:inB8 F H' y
 ·rfl
 ·exact absurd (inB8_uniq h e) hne
theorem chgL_in (a0:Nat) (f g:Nat→Pl):∀ n,∀ x ∈ chgL a0 f g n,a0≤x.1∧x.1 < a0 + 2 * n
 | 0,x,h => by simp [chgL] at h
 | n + 1,x,h => by
  rw [chgL,List.mem_append] at h
  rcases h with h | h
  ·have:=chgL_in a0 f g n x h; omega
  ·split at h
   ·simp at h
   ·simp at h
    rcases h with rfl | rfl <;> simp <;> omega
theorem chgL_rng (a0:Nat) (f g:Nat→Pl) (hg:∀ i,goodP (g i)):∀ n,∀ x ∈ chgL a0 f g n,0≤x.2∧x.2 < 18446744073709551616
 | 0,x,h => by simp [chgL] at h
 | n + 1,x,h => by
  rw [chgL,List.mem_append] at h
  rcases h with h | h
  ·exact chgL_rng a0 f g hg n x h
  ·split at h
   ·simp at h
   ·simp at h
    rcases h with rfl | rfl
    ·exact (wAB_rng (hg n)).1
    ·exact (wAB_rng (hg n)).2
theorem filter_all {p:Nat→Bool} {l:List (Nat × Int)} (h:∀ x ∈ l,p x.1=true):l.filter (fun x => p x.1)=l:=List.filter_eq_self.2 fun x hx => h x hx
theorem filter_none {p:Nat→Bool} {l:List (Nat × Int)} (h:∀ x ∈ l,p x.1=false):l.filter (fun x => p x.1)=[]:=List.filter_eq_nil_iff.2 fun x hx => by simp [h x hx]
section
variable (F:FcS) (k:Wk) (ld:List Int) (h0:Nat)
def odd1 (j:Nat):List (Nat × Int):=if chgB F k ld j=true then [(F.cell (h0 + j),oddI (ld.getD (j * F.W) 0))] else []
def even1 (j:Nat):List (Nat × Int):=if chgB F k ld j=true then [(F.cell (h0 + j),evenI (ld.getD (j * F.W) 0))] else []
def words1 (j:Nat):List (Nat × Int):=if chgB F k ld j=true then chgL (F.cell (h0 + j) + 1) (segF F ld j) (isF F k ld j) F.n else []
theorem odd1_in (j:Nat):∀ x ∈ odd1 F k ld h0 j,inB8 F (h0 + j) x.1=true:=fun x h => by
 unfold odd1 at h
 split at h
 ·simp at h; subst h; exact inB8_self F _ 0 F.W_pos
 ·simp at h
theorem even1_in (j:Nat):∀ x ∈ even1 F k ld h0 j,inB8 F (h0 + j) x.1=true:=fun x h => by
 unfold even1 at h
 split at h
 ·simp at h; subst h; exact inB8_self F _ 0 F.W_pos
 ·simp at h
theorem words1_in (j:Nat):∀ x ∈ words1 F k ld h0 j,F.cell (h0 + j) + 1≤x.1∧x.1 < F.cell (h0 + j) + F.W:=fun x h => by
 unfold words1 at h
 split at h
 ·have:=chgL_in _ _ _ _ x h
  unfold FcS.W
  omega
 ·simp at h
theorem words1_in' (j:Nat):∀ x ∈ words1 F k ld h0 j,inB8 F (h0 + j) x.1=true:=fun x h => by
 have:=words1_in F k ld h0 j x h
 exact inB8_iff.2 ⟨by omega,by omega⟩
def gath (L1:Nat→List (Nat × Int)):Nat→List (Nat × Int)
 | 0 => []
 | j + 1 => gath L1 j ++ L1 j
theorem odds_gath:∀ N,oddsL F k ld h0 N=gath (odd1 F k ld h0) N
 | 0 => rfl
 | N + 1 => by rw [oddsL,gath,odds_gath N]; rfl
theorem words_gath:∀ N,wordsL F k ld h0 N=gath (words1 F k ld h0) N
 | 0 => rfl
 | N + 1 => by rw [wordsL,gath,words_gath N]; rfl
theorem evens_gath:∀ N,evensL F k ld h0 N=gath (even1 F k ld h0) N
 | 0 => rfl
 | N + 1 => by rw [evensL,gath,evens_gath N]; rfl
variable {F h0}
theorem gath_filter {L1:Nat→List (Nat × Int)} (hin:∀ j,∀ x ∈ L1 j,inB8 F (h0 + j) x.1=true) (j:Nat):∀ N,(gath L1 N).filter (fun x => inB8 F (h0 + j) x.1)=if j < N then L1 j else []
 | 0 => rfl
 | N + 1 => by
  rw [gath,List.filter_append,gath_filter hin j N]
  by_cases e:j=N
  ·subst e
   rw [if_neg (by omega),if_pos (by omega),filter_all (p:=inB8 F (h0 + j)) (hin j),List.nil_append]
  ·rw [filter_none (p:=inB8 F (h0 + j)) (l:=L1 N) (fun x hx => inB8_other (hin N x hx) (by omega)),List.append_nil]
   by_cases h:j < N
   ·rw [if_pos h,if_pos (by omega)]
   ·rw [if_neg h,if_neg (by omega)]
theorem gath_mem {L1:Nat→List (Nat × Int)} {x:Nat × Int}:∀ {N},x ∈ gath L1 N→∃ j,j < N∧x ∈ L1 j
 | 0,h => by simp [gath] at h
 | N + 1,h => by
  rw [gath,List.mem_append] at h
  rcases h with h | h
  ·obtain ⟨j,h1,h2⟩:=gath_mem h; exact ⟨j,by omega,h2⟩
  ·exact ⟨N,by omega,h⟩
variable (F h0)
def seqB (j:Nat):List (Nat × Int):=odd1 F k ld h0 j ++ (words1 F k ld h0 j ++ even1 F k ld h0 j)
theorem wr_filter {hc j:Nat} (hj:j < hc):(wrL F k ld h0 hc).filter (fun x => inB8 F (h0 + j) x.1)=seqB F k ld h0 j:=by
 unfold wrL seqB
 rw [List.filter_append,List.filter_append,odds_gath,words_gath,evens_gath,gath_filter (odd1_in F k ld h0),gath_filter (words1_in' F k ld h0),gath_filter (even1_in F k ld h0),if_pos hj,if_pos hj,if_pos hj]
theorem wr_mem {hc:Nat} {x:Nat × Int} (h:x ∈ wrL F k ld h0 hc):∃ j,j < hc∧chgB F k ld j=true∧inB8 F (h0 + j) x.1=true:=by
 unfold wrL at h
 rw [List.mem_append,List.mem_append,odds_gath,words_gath,evens_gath] at h
 rcases h with h | h | h
 ·obtain ⟨j,hj,h⟩:=gath_mem h
  refine ⟨j,hj,?_,odd1_in F k ld h0 j x h⟩
  unfold odd1 at h; split at h
  ·assumption
  ·simp at h
 ·obtain ⟨j,hj,h⟩:=gath_mem h
  refine ⟨j,hj,?_,words1_in' F k ld h0 j x h⟩
  unfold words1 at h; split at h
  ·assumption
  ·simp at h
 ·obtain ⟨j,hj,h⟩:=gath_mem h
  refine ⟨j,hj,?_,even1_in F k ld h0 j x h⟩
  unfold even1 at h; split at h
  ·assumption
  ·simp at h
theorem gath_nil {L1:Nat→List (Nat × Int)}:∀ {N},gath L1 N=[] ↔ ∀ j,j < N→L1 j=[]
 | 0 => ⟨fun _ j h => by omega,fun _ => rfl⟩
 | N + 1 => by
  rw [gath,List.append_eq_nil_iff,gath_nil]
  exact ⟨fun ⟨h1,h2⟩ j hj => by
   by_cases e:j=N
   ·subst e; exact h2
   ·exact h1 j (by omega),fun h => ⟨fun j hj => h j (by omega),h N (by omega)⟩⟩
theorem wr_nil {hc:Nat}:wrL F k ld h0 hc=[] ↔ ∀ j,j < hc→chgB F k ld j=false:=by
 unfold wrL
 rw [List.append_eq_nil_iff,List.append_eq_nil_iff,odds_gath,words_gath,evens_gath,gath_nil,gath_nil,gath_nil]
 constructor
 ·intro h j hj
  have:=h.1 j hj
  unfold odd1 at this
  cases e:chgB F k ld j
  ·rfl
  ·rw [e,if_pos rfl] at this; simp at this
 ·intro h
  refine ⟨fun j hj => ?_,fun j hj => ?_,fun j hj => ?_⟩
  ·unfold odd1; rw [h j hj]; rfl
  ·unfold words1; rw [h j hj]; rfl
  ·unfold even1; rw [h j hj]; rfl
theorem odds_pos {hc:Nat} (h:wrL F k ld h0 hc ≠ []):0 < (oddsL F k ld h0 hc).length:=by
 rcases Nat.eq_zero_or_pos (oddsL F k ld h0 hc).length with h1 | h1
 ·exfalso
  apply h
  rw [wr_nil]
  have h2:=List.eq_nil_of_length_eq_zero h1
  rw [odds_gath,gath_nil] at h2
  intro j hj
  have:=h2 j hj
  unfold odd1 at this
  cases e:chgB F k ld j
  ·rfl
  ·rw [e,if_pos rfl] at this; simp at this
 ·exact h1
end
theorem prefix3 {a e:Nat × Int} {ws p:List (Nat × Int)} (h:p <+: [a] ++ (ws ++ [e])):p=[] ∨ (∃ q,p=a :: q∧q <+: ws) ∨ p=a :: (ws ++ [e]):=by
 obtain ⟨t,ht⟩:=h
 cases p with
 | nil => exact .inl rfl
 | cons b q =>
  simp only [List.cons_append,List.nil_append,List.cons.injEq] at ht
  obtain ⟨rfl,ht⟩:=ht
  rcases List.eq_nil_or_concat t with h0 | ⟨t',z,h0⟩
  ·rw [h0,List.append_nil] at ht
   exact .inr (.inr (by rw [ht]))
  ·rw [h0,List.concat_eq_append,← List.append_assoc] at ht
   obtain ⟨h1,_⟩:=List.append_inj' ht (by simp)
   exact .inr (.inl ⟨q,rfl,t',h1⟩)
theorem difB_iff {n:Nat} {f g:Nat→Pl}:difB n f g=false ↔ eqP n f g:=by
 unfold difB eqP
 rw [List.any_eq_false]
 simp
theorem putsC_two (c:Nat→Int) (a b:Nat) (u v:Int) (y:Nat):putsC c [(a,u),(b,v)] y=if y=b then v else if y=a then u else c y:=rfl
theorem chgL_puts (F:FcS) {H n:Nat} (hn:n≤F.n) (f g:Nat→Pl) (c:Nat→Int) (hg:∀ i,goodP (g i)) (hf:∀ i,i < n→decP (c (F.cell H + 1 + 2 * i)) (c (F.cell H + 1 + (2 * i + 1)))=f i):∀ i,i < n →
  decP (putsC c (chgL (F.cell H + 1) f g n) (F.cell H + 1 + 2 * i)) (putsC c (chgL (F.cell H + 1) f g n) (F.cell H + 1 + (2 * i + 1)))=g i:=by
 induction n with
 | zero => intro i hi; omega
 | succ n ih =>
  intro i hi
  have ih:=ih (by omega) (fun i hi => hf i (by omega))
  have hfar:∀ y,F.cell H + 1 + 2 * n≤y→putsC c (chgL (F.cell H + 1) f g n) y=c y:=fun y hy => putsC_far c _ y fun x hx => by
   have:=chgL_in _ _ _ _ x hx; omega
  rw [chgL]
  by_cases e:f n=g n
  ·rw [if_pos e,List.append_nil]
   by_cases hin:i=n
   ·subst hin
    rw [hfar _ (by omega),hfar _ (by omega),hf i (by omega),e]
   ·exact ih i (by omega)
  ·rw [if_neg e,putsC_append,putsC_two,putsC_two]
   by_cases hin:i=n
   ·subst hin
    rw [if_neg (by omega),if_pos (by omega),if_pos (by omega)]
    exact dec_enc (hg i)
   ·rw [if_neg (by omega),if_neg (by omega),if_neg (by omega),if_neg (by omega)]
    exact ih i (by omega)
theorem oddI_even {c:Int} (h0:0≤c) (h:c % 2=0):oddI c=c + 1:=by
 obtain ⟨n,rfl⟩:=Int.eq_ofNat_of_zero_le h0
 unfold oddI
 rw [Int.toNat_natCast]
 have hn:n % 2=0:=by omega
 have:n ||| 1=n + 1:=by
  have h9:=Nat.shiftLeft_add_eq_or_of_lt (i:=1) (b:=1) (by omega) (n / 2)
  rw [Nat.shiftLeft_eq] at h9
  have e:n / 2 * 2 ^ 1=n:=by omega
  rw [e] at h9
  exact h9.symm
 rw [this]
 omega
theorem evenI_even {c:Int} (h0:0≤c) (h:c % 2=0) (hb:c≤4611686018427387904):evenI c=c + 2:=by
 unfold evenI
 rw [oddI_even h0 h]
 omega
end Go.Proofs.Ythloabdfkakehaa
