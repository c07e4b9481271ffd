/-
  Words and contracts that a statement's proof rests on (PlainFi, FdO, FdQ). No statement is proved here.
-/
import Derived.Test.YthloabdfkakehaaPlainFh
import Derived.Test.YthloabdfkakehaaFdN
set_option linter.unusedVariables false
set_option linter.unusedSimpArgs false
namespace Go.Proofs.Ythloabdfkakehaa
section
def u64R (x:Int):Prop:=0≤x∧x < 18446744073709551616
theorem oddI_rng {x:Int} (h:u64R x):u64R (oddI x):=by
 obtain ⟨h1,h2⟩:=h
 have h3:x.toNat < 2 ^ 64:=by omega
 have h4:(x.toNat ||| 1) < 2 ^ 64:=Nat.or_lt_two_pow h3 (by decide)
 unfold oddI u64R
 constructor
 ·exact Int.natCast_nonneg _
 ·have h5:((x.toNat ||| 1:Nat):Int) < ((2 ^ 64:Nat):Int):=by exact_mod_cast h4
  exact h5
theorem evenI_rng (x:Int):u64R (evenI x):=by
 unfold evenI u64R
 omega
theorem getD_rng {l:List Int} (h:∀ x ∈ l,u64R x) (k:Nat):u64R (l.getD k 0):=by
 rw [List.getD_eq_getElem?_getD]
 rcases Nat.lt_or_ge k l.length with h9 | h9
 ·rw [List.getElem?_eq_getElem h9]; exact h _ (List.getElem_mem h9)
 ·rw [List.getElem?_eq_none h9]; exact ⟨by decide,by decide⟩
theorem seg_good {F:FcS} {l:List Int} (h:∀ x ∈ l,u64R x) (j i:Nat):goodP (segF F l j i):=dec_good (getD_rng h _).2
theorem chgL_rng2 (a0:Nat) (f:Nat→Pl) {g:Nat→Pl} (hg:∀ i,goodP (g i)):∀ n,∀ p ∈ chgL a0 f g n,u64R p.2
 | 0 => fun p hp => by cases hp
 | n + 1 => fun p hp => by
  rw [chgL,List.mem_append] at hp
  rcases hp with hp | hp
  ·exact chgL_rng2 a0 f hg n p hp
  ·have h9:=wAB_rng (hg n)
   split at hp
   ·cases hp
   ·simp only [List.mem_cons,List.not_mem_nil,or_false] at hp
    rcases hp with rfl | rfl
    ·exact h9.1
    ·exact h9.2
theorem wrL_rng {F:FcS} {k:Wk} {l:List Int} (hk:k.ok) (h:∀ x ∈ l,u64R x) (h0 n:Nat):∀ p ∈ wrL F k l h0 n,u64R p.2:=by
 have ho:∀ n,∀ p ∈ oddsL F k l h0 n,u64R p.2:=fun n => by
  induction n with
  | zero => intro p hp; cases hp
  | succ n ih =>
   intro p hp
   rw [oddsL,List.mem_append] at hp
   rcases hp with hp | hp
   ·exact ih p hp
   ·split at hp
    ·simp only [List.mem_cons,List.not_mem_nil,or_false] at hp
     subst hp
     exact oddI_rng (getD_rng h _)
    ·cases hp
 have he:∀ n,∀ p ∈ evensL F k l h0 n,u64R p.2:=fun n => by
  induction n with
  | zero => intro p hp; cases hp
  | succ n ih =>
   intro p hp
   rw [evensL,List.mem_append] at hp
   rcases hp with hp | hp
   ·exact ih p hp
   ·split at hp
    ·simp only [List.mem_cons,List.not_mem_nil,or_false] at hp
     subst hp
     exact evenI_rng _
    ·cases hp
 have hw:∀ n,∀ p ∈ wordsL F k l h0 n,u64R p.2:=fun n => by
  induction n with
  | zero => intro p hp; cases hp
  | succ n ih =>
   intro p hp
   rw [wordsL,List.mem_append] at hp
   rcases hp with hp | hp
   ·exact ih p hp
   ·split at hp
    ·exact chgL_rng2 _ _ (wk_good (f:=segF F l n) (fun i => seg_good h n i) F.n hk) F.n p hp
    ·cases hp
 intro p hp
 rw [wrL,List.mem_append,List.mem_append] at hp
 rcases hp with hp | hp | hp
 ·exact ho n p hp
 ·exact hw n p hp
 ·exact he n p hp
def MemR (m:MemS):Prop:=∀ x,u64R (m.c x)
structure ActR (a:FaS):Prop where
 ld:∀ x ∈ a.ld,u64R x
 wr:∀ p ∈ a.wr,u64R p.2
theorem rd_rng {F:FcS} {m:MemS} {a:FaS} (hm:MemR m) (ha:ActR a):ActR (rdA F m a) where
 ld:=fun x hx => by
  have hx:x ∈ a.ld ++ [m.c (F.cell a.h0 + a.ld.length)]:=hx
  rw [List.mem_append] at hx
  rcases hx with hx | hx
  ·exact ha.ld x hx
  ·simp only [List.mem_cons,List.not_mem_nil,or_false] at hx
   subst hx
   exact hm _
 wr:=ha.wr
theorem step_rng {F:FcS} {m:MemS} {a:FaS} (hk:a.wk.ok) (hm:MemR m) (ha:ActR a):MemR (stepF F m a).1∧ActR (stepF F m a).2:=by
 have no1:∀ x ∈ ([]:List Int),u64R x:=fun x hx => by cases hx
 have no2:∀ p ∈ ([]:List (Nat × Int)),u64R p.2:=fun x hx => by cases hx
 unfold stepF
 split
 ·unfold tryF
  split
  ·exact ⟨hm,rd_rng hm ha⟩
  ·split
   ·exact ⟨hm,no1,no2⟩
   ·exact ⟨hm,no1,ha.wr⟩
 split
 ·unfold takF
  split
  ·exact ⟨hm,ha.ld,ha.wr⟩
  ·exact ⟨hm,ha⟩
 split
 ·unfold loaF
  refine ⟨hm,?_⟩
  have hr:=rd_rng (F:=F) hm ha
  show ActR (if _ then _ else _)
  split
  ·exact hr
  ·exact ⟨hr.ld,wrL_rng hk hr.ld _ _⟩
 split
 ·unfold stoF
  refine ⟨fun x => ?_,ha.ld,ha.wr⟩
  show u64R (if x=(a.wr.getD a.wt (0,0)).1 then (a.wr.getD a.wt (0,0)).2 else m.c x)
  split
  ·rw [List.getD_eq_getElem?_getD]
   rcases Nat.lt_or_ge a.wt a.wr.length with h9 | h9
   ·rw [List.getElem?_eq_getElem h9]; exact ha.wr _ (List.getElem_mem h9)
   ·rw [List.getElem?_eq_none h9]; exact ⟨by decide,by decide⟩
  ·exact hm x
 split
 ·unfold freF
  refine ⟨?_,?_⟩
  ·show MemR (if _ then _ else _)
   split
   ·exact hm
   ·exact hm
  ·show ActR (if _ then _ else _)
   split
   ·exact ⟨no1,no2⟩
   ·exact ⟨ha.ld,ha.wr⟩
 ·exact ⟨hm,ha⟩
end
section
open Go.RowKit
section
variable {w:World} {lo b fb L ab:Nat} {E:Nat→Prop} {F:FcS} {m:MemS} {N:Nat} {A:Nat→FaS} {g:Nat→Nat→Pl} {fv lv wv:Value}
theorem fact_Step (hI:FdbInv F m N A g) {i:Nat} (hi:i < N) (hm:MemR m) (hr:ActR (A i)) (hf:FdbAt w lo b fb F m) (ha:FactIn w L E fb ab F (A i) fv lv wv) (h1:lo + 3≤L) (h2:fb < L) (hLw:L≤w.heap.size) (ht:0≤m.t∧m.t≤4611686018427387900) :
  Calls Try.prog 20 #[.pointer (some ⟨ab,0,none⟩)] w (FStep lo b fb L ab E F (stepF F m (A i)).1 (stepF F m (A i)).2 w):=by
 have ok:=hI.ok i hi
 have fits:=hf.fits
 have hSB:=fits.SB
 have hW:=fits.W
 have h4:=ok.hc
 have h5:=ok.hh
 have hl2:=ok.l2
 have hfl:=fits.l
 have hfL:=fits.L
 have hfC:=fits.C
 have hS:=fits.S
 have hall:(A i).hc * F.W≤128 * 17:=Nat.mul_le_mul (by omega) hW.2
 have hcl:F.cell (A i).h0 + (A i).hc * F.W≤m.C:=by
  have h9:=fits.cell (H:=(A i).h0 + ((A i).hc - 1)) (by omega)
  rw [cell_add] at h9
  have h8:((A i).hc - 1) * F.W + F.W=(A i).hc * F.W:=by
   rw [← Nat.succ_mul]; congr 1; omega
  omega
 rcases hI.stg i hi with ⟨e,_⟩ | ⟨e,s⟩ | ⟨e,s⟩ | ⟨e,s⟩ | ⟨e,s,hwt⟩ | ⟨e,s⟩
 ·have e9:stepF F m (A i)=(m,A i):=by unfold stepF; simp [e]
  rw [e9]
  exact step_over hf ha hLw e
 ·have e9:stepF F m (A i)=tryF F m (A i):=by unfold stepF; rw [if_pos e]
  rw [e9]
  have hw1:(A i).hc * F.W=F.W:=by rw [s.hc,Nat.one_mul]
  have hv:=s.vain
  have htr:=fits.tr
  have hlen:=s.len
  by_cases hl:(A i).ld.length < (A i).hc * F.W
  ·exact step_try ha e (fact_tryA hf ha h1 h2 hLw ht hl hcl (by omega))
  ·by_cases hg:m.c (F.cell (A i).h0)=(A i).ld.getD 0 0∧m.c (F.cell (A i).h0) % 2=0
   ·exact step_try ha e (fact_tryB hf ha h1 h2 hLw ht s.hc (by omega) (by omega) hg hr.ld ok.wk)
   ·exact step_try ha e (fact_tryC hf ha h1 h2 hLw ht s.hc (by omega) (by omega) hg (hm _).1 e (by omega))
 ·have e9:stepF F m (A i)=takF m (A i):=by unfold stepF; simp [e]
  rw [e9]
  have hh:=s.held
  exact step_tak ha e ((fact_take hf ha h1 h2 ht ok.who (by omega) e (by omega)).mono fun _ _ h => h.done hLw)
 ·have e9:stepF F m (A i)=loaF F m (A i):=by unfold stepF; simp [e]
  rw [e9]
  exact step_loa ha e (fact_load hf ha h1 h2 hLw ht s.len hcl (by omega) h5 (rd_rng hm hr).ld ok.wk s.ans)
 ·have e9:stepF F m (A i)=stoF m (A i):=by unfold stepF; simp [e]
  rw [e9]
  have hl1:=oddsL_len F (A i).wk (A i).ld (A i).h0 (A i).hc
  have hl2':=wordsL_len F (A i).wk (A i).ld (A i).h0 (A i).hc
  have hl3:=evensL_len F (A i).wk (A i).ld (A i).h0 (A i).hc
  have hwl:(A i).wr.length≤100000:=by
   rw [s.wr,wrL,List.length_append,List.length_append]
   have h9:(A i).hc * (2 * F.n)≤128 * 16:=Nat.mul_le_mul (by omega) (by have:=fits.n; omega)
   omega
  have hx:((A i).wr.getD (A i).wt (0,0)).1 < m.C:=by
   rw [List.getD_eq_getElem?_getD,List.getElem?_eq_getElem hwt]
   have hmem:(A i).wr[(A i).wt] ∈ wrL F (A i).wk (A i).ld (A i).h0 (A i).hc:=by
    rw [← s.wr]; exact List.getElem_mem hwt
   obtain ⟨j,hj,_,hb⟩:=wr_mem _ _ _ _ hmem
   have h9:=fits.cell (H:=(A i).h0 + j) (by omega)
   have h8:=inB8_iff.1 hb
   show ((A i).wr[(A i).wt]).1 < m.C
   omega
  exact step_sto ha e ((fact_store hf ha h1 h2 ht hwt hx hwl (by rw [s.od]; omega) e).mono fun _ _ h => h.done hLw)
 ·have e9:stepF F m (A i)=freF m (A i):=by unfold stepF; simp [e]
  rw [e9]
  have hh:=s.held
  have hle:=s.le
  exact step_fre ha e ((fact_free hf ha h1 h2 ht ok.who hh (by omega)).mono fun _ _ h => h.done hLw)
end
end
section
open Go.RowKit
section
variable {w w':World} {lo b fb L ab:Nat} {E E':Nat→Prop} {F:FcS} {m m':MemS} {N:Nat} {A:Nat→FaS} {g:Nat→Nat→Pl} {fv lv wv:Value}
theorem FactAt.other {a:FaS} (h:FactAt w L E' fb ab F a) (ht:Tch (FdD lo E) w w') (h1:lo + 3≤L) (hd:∀ k,E' k→¬ E k):FactAt w' L E' fb ab F a:=by
 obtain ⟨fv,lv,wv,h⟩:=h
 exact ⟨fv,lv,wv,h.tch ht fun k hk e => by
  rcases e with e | e
  ·have:=(h.low k hk).1; omega
  ·exact hd k hk e⟩
def updE (Es:Nat→Nat→Prop) (i:Nat) (e:Nat→Prop) (j:Nat):Nat→Prop:=if j=i then e else Es j
structure ActsAt (w:World) (lo b fb L:Nat) (F:FcS) (m:MemS) (N:Nat) (A:Nat→FaS) (ab:Nat→Nat) (Es:Nat→Nat→Prop) (g:Nat→Nat→Pl):Prop where
 fd:FdbAt w lo b fb F m
 act:∀ i,i < N→FactAt w L (Es i) fb (ab i) F (A i)
 apart:∀ i j,i < N→j < N→i ≠ j→∀ k,Es i k→¬ Es j k
 inv:FdbInv F m N A g
 rm:MemR m
 ra:∀ i,i < N→ActR (A i)
theorem ActsAt.stepped {ab:Nat→Nat} {Es:Nat→Nat→Prop} {g':Nat→Nat→Pl} {a':FaS} {i:Nat} (h:ActsAt w lo b fb L F m N A ab Es g) (hi:i < N) (h1:lo + 3≤L) (hf:FdbAt w' lo b fb F m') (ha:FactAt w' L (growE (Es i) w w') fb (ab i) F a') (ht:Tch (FdD lo (Es i)) w w') (hinv:FdbInv F m' N (updA A i a') g') (hm:MemR m') (hr:ActR a') :
  ActsAt w' lo b fb L F m' N (updA A i a') ab (updE Es i (growE (Es i) w w')) g' where
 fd:=hf
 act:=fun j hj => by
  unfold updA updE
  by_cases e:j=i
  ·subst e; rw [if_pos rfl,if_pos rfl]; exact ha
  ·rw [if_neg e,if_neg e]
   exact (h.act j hj).other ht h1 fun k hk e9 => h.apart j i hj hi e k hk e9
 apart:=fun j j' hj hj' hne k hk hk' => by
  have hlow:∀ j,j < N→∀ k,Es j k→k < w.heap.size:=fun j hj k hk => by
   obtain ⟨_,_,_,h9⟩:=h.act j hj
   exact (h9.low k hk).2
  unfold updE at hk hk'
  by_cases e:j=i
  ·rw [if_pos e] at hk
   rw [if_neg (by omega)] at hk'
   rcases hk with hk | hk
   ·exact h.apart i j' hi hj' (by omega) k hk hk'
   ·have:=hlow j' hj' k hk'; omega
  ·rw [if_neg e] at hk
   by_cases e':j'=i
   ·rw [if_pos e'] at hk'
    rcases hk' with hk' | hk'
    ·exact h.apart j i hj hi e k hk hk'
    ·have:=hlow j hj k hk; omega
   ·rw [if_neg e'] at hk'
    exact h.apart j j' hj hj' hne k hk hk'
 inv:=hinv
 rm:=hm
 ra:=fun j hj => by
  unfold updA
  by_cases e:j=i
  ·rw [if_pos e]; exact hr
  ·rw [if_neg e]; exact h.ra j hj
def ActsDid (lo b fb L:Nat) (F:FcS) (m:MemS) (N:Nat) (A:Nat→FaS) (ab:Nat→Nat) (Es:Nat→Nat→Prop) (g:Nat→Nat→Pl) (i:Nat) (w:World) (e:Ending) (w':World):Prop :=
 e=.returned (.bool (decide ((stepF F m (A i)).2.st=0)))∧Tch (FdD lo (Es i)) w w'∧(stepF F m (A i)).1.t=m.t + 1∧Same (A i) (stepF F m (A i)).2 ∧
  ∃ g',Eff F (stepF F m (A i)).1 (A i) (stepF F m (A i)).2 g g'∧ActsAt w' lo b fb L F (stepF F m (A i)).1 N (updA A i (stepF F m (A i)).2) ab (updE Es i (growE (Es i) w w')) g'
theorem acts_Step {ab:Nat→Nat} {Es:Nat→Nat→Prop} {i:Nat} (h:ActsAt w lo b fb L F m N A ab Es g) (hi:i < N) (h1:lo + 3≤L) (h2:fb < L) (hLw:L≤w.heap.size) (ht:0≤m.t∧m.t≤4611686018427387900) (hst:(A i).st ≠ 0) :
  Calls Try.prog 20 #[.pointer (some ⟨ab i,0,none⟩)] w (ActsDid lo b fb L F m N A ab Es g i w):=by
 obtain ⟨fv,lv,wv,ha⟩:=h.act i hi
 obtain ⟨g',hinv,hs,he,htt⟩:=step_went h.inv hi ht.1 (by omega) hst
 have hrg:=step_rng (F:=F) (h.inv.ok i hi).wk h.rm (h.ra i hi)
 refine (fact_Step h.inv hi h.rm (h.ra i hi) h.fd ha h1 h2 hLw ht).mono fun e w' hh => ?_
 obtain ⟨e1,e2,e3,e4⟩:=hh
 exact ⟨e1,e4,htt,hs,g',he,h.stepped hi h1 e2 e3 e4 hinv hrg.1 hrg.2⟩
theorem acts_Over {ab:Nat→Nat} {Es:Nat→Nat→Prop} {i:Nat} (h:ActsAt w lo b fb L F m N A ab Es g) (hi:i < N) {z:Bool} (hz:decide ((A i).st=0)=z) :
  Calls Try.prog 21 #[.pointer (some ⟨ab i,0,none⟩)] w fun e w' => e=.returned (.bool z)∧w=w':=by
 obtain ⟨fv,lv,wv,ha⟩:=h.act i hi
 exact fact_Over ha hz
end
end
end Go.Proofs.Ythloabdfkakehaa
