/-
  Words and contracts that a statement's proof rests on (PlainFj, PlainFk). No statement is proved here.
-/
import Derived.Test.YthloabdfkakehaaGreatFeC
set_option linter.unusedVariables false
set_option linter.unusedSimpArgs false
namespace Go.Proofs.YthloabdfkakehaaGreat
section
section
variable {F:FcS} {m:MemS} {N:Nat} {A:Nat→FaS} {g:Nat→Nat→Pl}
theorem FdbInv.more (h:FdbInv F m N A g) {a:FaS} (hok:ActOk F a) (hs:StgOk F m g a) (hh:a.held=0) (h4:a.st ≠ 4) (hu:∀ i,i < N→(A i).st ≠ 0→(A i).who ≠ a.who):FdbInv F m (N + 1) (updA A N a) g where
 ok:=fun i hi => by
  unfold updA
  split
  ·exact hok
  ·exact h.ok i (by omega)
 stg:=fun i hi => by
  unfold updA
  split
  ·exact hs
  ·exact h.stg i (by omega)
 own:=fun i hi x hx => by
  by_cases e:i=N
  ·subst e; rw [updA_same,hh] at hx; omega
  ·rw [updA_other _ _ e] at hx ⊢; exact h.own i (by omega) x hx
 uniq:=fun i j hi hj hne h1 h2 => by
  by_cases e:i=N
  ·subst e
   rw [updA_same]
   rw [updA_other _ _ (Ne.symm hne)] at h2 ⊢
   exact fun e => hu j (by omega) h2 e.symm
  ·rw [updA_other _ _ e] at h1 ⊢
   by_cases e2:j=N
   ·subst e2; rw [updA_same]; exact hu i (by omega) h1
   ·rw [updA_other _ _ e2] at h2 ⊢; exact h.uniq i j (by omega) (by omega) hne h1 h2
 idle:=fun H hH hn => h.idle H hH fun i hi h4 => by
  have:=hn i (by omega)
  rw [updA_other _ _ (by omega)] at this
  exact this h4
 ctr:=h.ctr
 rng:=h.rng
 good:=h.good
theorem FdbInv.start (F:FcS) (C L:Nat) (A:Nat→FaS):FdbInv F ⟨C,L,fun _ => 0,fun _ => -1,0⟩ 0 A (fun _ _ => pl0) where
 ok:=fun i hi => absurd hi (by omega)
 stg:=fun i hi => absurd hi (by omega)
 own:=fun i hi => absurd hi (by omega)
 uniq:=fun i j hi => absurd hi (by omega)
 idle:=fun H hH _ => ⟨rfl,fun i hi => by
  show decP 0 0=pl0
  decide +kernel⟩
 ctr:=fun H hH => ⟨Int.le_refl 0,Int.le_refl 0⟩
 rng:=fun H hH x hx => show (0:Int) < _ by decide
 good:=fun H i => good_pl0
def repG (n:Nat) (A:Nat→FaS):(Nat→Nat→Pl)→List Nat→(Nat→Nat→Pl)
 | g,[] => g
 | g,i :: l => repG n A (actG n (A i) g) l
def ansG (n:Nat) (A:Nat→FaS):(Nat→Nat→Pl)→List Nat→Prop
 | g,[] => True
 | g,i :: l => (A i).ans=comeG n (A i).wk g (A i).h0 (A i).hc∧ansG n A (actG n (A i) g) l
theorem repG_snoc (n:Nat) (A:Nat→FaS) (i:Nat):∀ (l:List Nat) (g:Nat→Nat→Pl),repG n A g (l ++ [i])=actG n (A i) (repG n A g l)
 | [],g => rfl
 | j :: l,g => repG_snoc n A i l _
theorem ansG_snoc (n:Nat) (A:Nat→FaS) (i:Nat):∀ (l:List Nat) (g:Nat→Nat→Pl),ansG n A g l→(A i).ans=comeG n (A i).wk (repG n A g l) (A i).h0 (A i).hc→ansG n A g (l ++ [i])
 | [],g,_,h => ⟨h,trivial⟩
 | j :: l,g,h1,h => ⟨h1.1,ansG_snoc n A i l _ h1.2 h⟩
theorem actG_same {n:Nat} {a b:FaS} (s:Same a b) (g:Nat→Nat→Pl):actG n b g=actG n a g:=by
 funext H
 unfold actG
 rw [s.h0,s.hc,s.wk]
theorem repG_same {n:Nat} {A A':Nat→FaS}:∀ (l:List Nat) (g:Nat→Nat→Pl),(∀ i ∈ l,Same (A i) (A' i))→repG n A' g l=repG n A g l
 | [],g,_ => rfl
 | j :: l,g,h => by
  rw [repG,repG,actG_same (h j (List.mem_cons_self ..))]
  exact repG_same l _ fun i hi => h i (List.mem_cons_of_mem _ hi)
theorem ansG_same {n:Nat} {A A':Nat→FaS}:∀ (l:List Nat) (g:Nat→Nat→Pl),(∀ i ∈ l,Same (A i) (A' i)∧(A' i).ans=(A i).ans)→ansG n A g l→ansG n A' g l
 | [],g,_,_ => trivial
 | j :: l,g,h,h1 => by
  obtain ⟨s,e⟩:=h j (List.mem_cons_self ..)
  refine ⟨?_,?_⟩
  ·rw [e,s.wk,s.h0,s.hc]; exact h1.1
  ·rw [actG_same s]
   exact ansG_same l _ (fun i hi => h i (List.mem_cons_of_mem _ hi)) h1.2
theorem step_locks (h:FdbInv F m N A g) {i:Nat} (hi:i < N) (hst:(A i).st ≠ 0) :
  ((stepF F m (A i)).1.h=m.h∧(stepF F m (A i)).2.held=(A i).held) ∨
  ((A i).st=2∧m.h ((A i).l0 + (A i).held)=-1∧(stepF F m (A i)).1.h=(fun j => if j=(A i).l0 + (A i).held then (A i).who else m.h j)∧(stepF F m (A i)).2.held=(A i).held + 1) ∨
  ((A i).st=5∧1≤(A i).held∧(stepF F m (A i)).1.h=(fun j => if j=(A i).l0 + ((A i).held - 1) then -1 else m.h j)∧(stepF F m (A i)).2.held=(A i).held - 1):=by
 have h5:=(h.stg i hi).le5
 unfold stepF
 by_cases e1:(A i).st=1
 ·rw [if_pos e1]
  left
  unfold tryF
  split
  ·exact ⟨rfl,rfl⟩
  ·split
   ·exact ⟨rfl,rfl⟩
   ·exact ⟨rfl,rfl⟩
 rw [if_neg e1]
 by_cases e2:(A i).st=2
 ·rw [if_pos e2]
  unfold takF
  by_cases hl:m.h ((A i).l0 + (A i).held)=-1
  ·rw [if_pos hl]
   exact .inr (.inl ⟨e2,hl,rfl,rfl⟩)
  ·rw [if_neg hl]
   exact .inl ⟨rfl,rfl⟩
 rw [if_neg e2]
 by_cases e3:(A i).st=3
 ·rw [if_pos e3]
  left
  unfold loaF
  refine ⟨rfl,?_⟩
  show FaS.held (if _ then _ else _)=_
  split
  ·rfl
  ·rfl
 rw [if_neg e3]
 by_cases e4:(A i).st=4
 ·rw [if_pos e4]
  left
  exact ⟨rfl,rfl⟩
 rw [if_neg e4,if_pos (by omega)]
 have s5:=(h.stg i hi).five (by omega)
 have ho:=h.own i hi ((A i).held - 1) (by have:=s5.held; omega)
 right
 right
 refine ⟨by omega,s5.held,?_,?_⟩
 ·unfold freF
  rw [if_pos ho]
  rfl
 ·unfold freF
  show FaS.held (if _ then _ else _)=_
  split
  ·rename_i h0; exact h0.symm
  ·rfl
structure RunP (F:FcS) (m:MemS) (N:Nat) (A:Nat→FaS) (g:Nat→Nat→Pl) (lg:List Nat) (fr tt:Nat→Int):Prop where
 inv:FdbInv F m N A g
 t0:0≤m.t
 lin:∀ i ∈ lg,i < N∧0 < (A i).mark
 lall:∀ i,i < N→(A i).mark ≠ 0→i ∈ lg
 ord:lg.Pairwise fun i j => (A i).mark < (A j).mark
 top:∀ i,i < N→0≤(A i).mark∧(A i).mark≤m.t
 rep:repG F.n A (fun _ _ => pl0) lg=g
 ans:ansG F.n A (fun _ _ => pl0) lg
 fr:∀ i,i < N→0≤fr i∧fr i≤m.t∧((A i).mark=0 ∨ fr i < (A i).mark)
 tt:∀ i,i < N→((A i).st ≠ 0∧tt i=-1) ∨ ((A i).st=0∧0 < (A i).mark∧(A i).mark≤tt i∧tt i≤m.t)
 lock:∀ x,m.h x=-1 ∨ ∃ i,i < N∧(A i).l0≤x∧x < (A i).l0 + (A i).held
def updI (f:Nat→Int) (k:Nat) (v:Int) (i:Nat):Int:=if i=k then v else f i
theorem RunP.start (F:FcS) (C L:Nat) (A:Nat→FaS) (fr tt:Nat→Int):RunP F ⟨C,L,fun _ => 0,fun _ => -1,0⟩ 0 A (fun _ _ => pl0) [] fr tt where
 inv:=FdbInv.start F C L A
 t0:=Int.le_refl 0
 lin:=fun i hi => by cases hi
 lall:=fun i hi => absurd hi (by omega)
 ord:=List.Pairwise.nil
 top:=fun i hi => absurd hi (by omega)
 rep:=rfl
 ans:=trivial
 fr:=fun i hi => absurd hi (by omega)
 tt:=fun i hi => absurd hi (by omega)
 lock:=fun x => .inl rfl
theorem RunP.more {lg:List Nat} {fr tt:Nat→Int} (h:RunP F m N A g lg fr tt) {a:FaS} (hok:ActOk F a) (hs:StgOk F m g a) (hh:a.held=0) (h0:a.st ≠ 0) (h4:a.st ≠ 4) (hm:a.mark=0) (hu:∀ i,i < N→(A i).st ≠ 0→(A i).who ≠ a.who):RunP F m (N + 1) (updA A N a) g lg (updI fr N m.t) (updI tt N (-1)) where
 inv:=h.inv.more hok hs hh h4 hu
 t0:=h.t0
 lin:=fun i hi => by
  obtain ⟨h1,h2⟩:=h.lin i hi
  rw [updA_other _ _ (by omega)]
  exact ⟨by omega,h2⟩
 lall:=fun i hi h9 => by
  by_cases e:i=N
  ·subst e; rw [updA_same] at h9; exact absurd hm h9
  ·rw [updA_other _ _ e] at h9; exact h.lall i (by omega) h9
 ord:=h.ord.imp_of_mem fun {i j} hi hj h9 => by
  rw [updA_other _ _ (by have:=(h.lin i hi).1; omega),updA_other _ _ (by have:=(h.lin j hj).1; omega)]
  exact h9
 top:=fun i hi => by
  by_cases e:i=N
  ·subst e; rw [updA_same,hm]; exact ⟨Int.le_refl 0,h.t0⟩
  ·rw [updA_other _ _ e]; exact h.top i (by omega)
 rep:=by
  rw [repG_same (A:=A) lg _ fun i hi => by rw [updA_other _ _ (by have:=(h.lin i hi).1; omega)]; exact Same.rfl_ _]
  exact h.rep
 ans:=ansG_same (A:=A) lg _ (fun i hi => by rw [updA_other _ _ (by have:=(h.lin i hi).1; omega)]; exact ⟨Same.rfl_ _,rfl⟩) h.ans
 fr:=fun i hi => by
  unfold updI
  by_cases e:i=N
  ·subst e; rw [updA_same,if_pos rfl]; exact ⟨h.t0,Int.le_refl _,.inl hm⟩
  ·rw [updA_other _ _ e,if_neg e]; exact h.fr i (by omega)
 tt:=fun i hi => by
  unfold updI
  by_cases e:i=N
  ·subst e; rw [updA_same,if_pos rfl]; exact .inl ⟨h0,rfl⟩
  ·rw [updA_other _ _ e,if_neg e]; exact h.tt i (by omega)
 lock:=fun x => by
  rcases h.lock x with h9 | ⟨i,h1,h2⟩
  ·exact .inl h9
  ·exact .inr ⟨i,by omega,by rw [updA_other _ _ (by omega)]; exact h2⟩
theorem RunP.step {lg:List Nat} {fr tt:Nat→Int} (h:RunP F m N A g lg fr tt) {i:Nat} (hi:i < N) (ht2:m.t≤4611686018427387904) (hst:(A i).st ≠ 0) :
  ∃ g' lg',RunP F (stepF F m (A i)).1 N (updA A i (stepF F m (A i)).2) g' lg' fr (if (stepF F m (A i)).2.st=0 then updI tt i (m.t + 1) else tt):=by
 obtain ⟨g',hinv,hs,he,htt⟩:=step_went h.inv hi h.t0 ht2 hst
 have hlk:=step_locks h.inv hi hst
 have h9:=h.top i hi
 have hf9:=h.fr i hi
 have ht9:=h.tt i hi
 have hst9:(stepF F m (A i)).2.st=0→0 < (stepF F m (A i)).2.mark:=fun e => by
  have:=hinv.stg i hi
  rw [updA_same] at this
  rcases this with ⟨_,_,h8⟩ | ⟨h8,_⟩ | ⟨h8,_⟩ | ⟨h8,_⟩ | ⟨h8,_⟩ | ⟨h8,_⟩
  ·exact h8
  all_goals (exfalso; omega)
 generalize stepF F m (A i)=r at *
 have hmk:r.2.mark=(A i).mark ∨ ((A i).mark=0∧r.2.mark=m.t + 1):=by
  rcases he with ⟨e1,_⟩ | ⟨e1,e2,_⟩
  ·exact .inl e1
  ·exact .inr ⟨e1,by rw [e2,htt]⟩
 have hlock:∀ x,r.1.h x=-1 ∨ ∃ j,j < N∧(updA A i r.2 j).l0≤x∧x < (updA A i r.2 j).l0 + (updA A i r.2 j).held:=fun x => by
  have hother:∀ j,j < N→j ≠ i→((A j).l0≤x∧x < (A j).l0 + (A j).held)→∃ j,j < N∧(updA A i r.2 j).l0≤x∧x < (updA A i r.2 j).l0 + (updA A i r.2 j).held:=fun j hj hne h8 => ⟨j,hj,by rw [updA_other _ _ hne]; exact h8⟩
  rcases hlk with ⟨e1,e2⟩ | ⟨_,_,e1,e2⟩ | ⟨_,e0,e1,e2⟩
  ·rw [e1]
   rcases h.lock x with h8 | ⟨j,hj,h8⟩
   ·exact .inl h8
   ·right
    by_cases e:j=i
    ·subst e; exact ⟨j,hj,by rw [updA_same,hs.l0,e2]; exact h8⟩
    ·exact hother j hj e h8
  ·rw [e1]
   by_cases ex:x=(A i).l0 + (A i).held
   ·right
    exact ⟨i,hi,by rw [updA_same,hs.l0,e2]; omega⟩
   ·show (if _ then _ else _)=_ ∨ _
    rw [if_neg ex]
    rcases h.lock x with h8 | ⟨j,hj,h8⟩
    ·exact .inl h8
    ·right
     by_cases e:j=i
     ·subst e; exact ⟨j,hj,by rw [updA_same,hs.l0,e2]; omega⟩
     ·exact hother j hj e h8
  ·rw [e1]
   by_cases ex:x=(A i).l0 + ((A i).held - 1)
   ·left
    show (if _ then _ else _)=_
    rw [if_pos ex]
   ·show (if _ then _ else _)=_ ∨ _
    rw [if_neg ex]
    rcases h.lock x with h8 | ⟨j,hj,h8⟩
    ·exact .inl h8
    ·right
     by_cases e:j=i
     ·subst e; exact ⟨j,hj,by rw [updA_same,hs.l0,e2]; omega⟩
     ·exact hother j hj e h8
 have hsame:∀ j,Same (A j) (updA A i r.2 j):=fun j => by
  by_cases e:j=i
  ·subst e; rw [updA_same]; exact hs
  ·rw [updA_other _ _ e]; exact Same.rfl_ _
 have hfr:∀ j,j < N→0≤fr j∧fr j≤r.1.t∧((updA A i r.2 j).mark=0 ∨ fr j < (updA A i r.2 j).mark):=fun j hj => by
  have:=h.fr j hj
  by_cases e:j=i
  ·subst e; rw [updA_same]; omega
  ·rw [updA_other _ _ e]; omega
 have htop:∀ j,j < N→0≤(updA A i r.2 j).mark∧(updA A i r.2 j).mark≤r.1.t:=fun j hj => by
  have:=h.top j hj
  have:=h.t0
  by_cases e:j=i
  ·subst e; rw [updA_same]; omega
  ·rw [updA_other _ _ e]; omega
 have htt2:∀ j,j < N→((updA A i r.2 j).st ≠ 0∧(if r.2.st=0 then updI tt i (m.t + 1) else tt) j=-1) ∨ ((updA A i r.2 j).st=0∧0 < (updA A i r.2 j).mark∧(updA A i r.2 j).mark≤(if r.2.st=0 then updI tt i (m.t + 1) else tt) j∧(if r.2.st=0 then updI tt i (m.t + 1) else tt) j≤r.1.t):=fun j hj => by
  have h7:=h.tt j hj
  by_cases e:j=i
  ·subst e
   rw [updA_same]
   by_cases e0:r.2.st=0
   ·right
    rw [if_pos e0]
    unfold updI
    rw [if_pos rfl]
    have h8:=hst9 e0
    exact ⟨e0,h8,by omega,by omega⟩
   ·left
    rw [if_neg e0]
    exact ⟨e0,by rcases h7 with h7 | h7; exact h7.2; exact absurd h7.1 hst⟩
  ·rw [updA_other _ _ e]
   have e2:(if r.2.st=0 then updI tt i (m.t + 1) else tt) j=tt j:=by
    split
    ·unfold updI; rw [if_neg e]
    ·rfl
   rw [e2]
   rcases h7 with h7 | h7
   ·exact .inl h7
   ·exact .inr ⟨h7.1,h7.2.1,h7.2.2.1,by omega⟩
 rcases he with ⟨e1,e2,e3⟩ | ⟨e1,e2,e3,e4⟩
 ·refine ⟨g',lg,hinv,by have:=h.t0; omega,fun j hj => ?_,fun j hj h8 => ?_,h.ord.imp_of_mem fun {j k} hj hk h8 => ?_,htop,?_,?_,hfr,htt2,hlock⟩
  ·obtain ⟨a1,a2⟩:=h.lin j hj
   refine ⟨a1,?_⟩
   by_cases e:j=i
   ·subst e; rw [updA_same,e1]; exact a2
   ·rw [updA_other _ _ e]; exact a2
  ·by_cases e:j=i
   ·subst e; rw [updA_same,e1] at h8; exact h.lall j hj h8
   ·rw [updA_other _ _ e] at h8; exact h.lall j hj h8
  ·have hmm:∀ j,(updA A i r.2 j).mark=(A j).mark:=fun j => by
    by_cases e:j=i
    ·subst e; rw [updA_same,e1]
    ·rw [updA_other _ _ e]
   rw [hmm,hmm]; exact h8
  ·rw [repG_same (A:=A) lg _ fun j _ => hsame j,e2]; exact h.rep
  ·refine ansG_same (A:=A) lg _ (fun j hj => ⟨hsame j,?_⟩) h.ans
   by_cases e:j=i
   ·subst e; rw [updA_same]; exact e3 (by have:=(h.lin j hj).2; omega)
   ·rw [updA_other _ _ e]
 ·have hni:i ∉ lg:=fun hm => by have:=(h.lin i hm).2; omega
  have hne:∀ j ∈ lg,j ≠ i:=fun j hj e => hni (e ▸ hj)
  refine ⟨g',lg ++ [i],hinv,by have:=h.t0; omega,fun j hj => ?_,fun j hj h8 => ?_,?_,htop,?_,?_,hfr,htt2,hlock⟩
  ·rw [List.mem_append,List.mem_singleton] at hj
   rcases hj with hj | hj
   ·rw [updA_other _ _ (hne j hj)]; exact h.lin j hj
   ·subst hj; rw [updA_same,e2]; exact ⟨hi,by have:=h.t0; omega⟩
  ·rw [List.mem_append,List.mem_singleton]
   by_cases e:j=i
   ·exact .inr e
   ·rw [updA_other _ _ e] at h8; exact .inl (h.lall j hj h8)
  ·rw [List.pairwise_append]
   refine ⟨h.ord.imp_of_mem fun {j k} hj hk h8 => ?_,List.pairwise_singleton _ _,fun j hj k hk => ?_⟩
   ·rw [updA_other _ _ (hne j hj),updA_other _ _ (hne k hk)]; exact h8
   ·rw [List.mem_singleton] at hk
    subst hk
    rw [updA_same,updA_other _ _ (hne j hj),e2]
    have:=(h.top j (h.lin j hj).1).2
    omega
  ·rw [repG_snoc,repG_same (A:=A) lg _ fun j _ => hsame j,h.rep,updA_same,actG_same hs,e3]
  ·refine ansG_snoc _ _ _ _ _ (ansG_same (A:=A) lg _ (fun j hj => ⟨hsame j,by rw [updA_other _ _ (hne j hj)]⟩) h.ans) ?_
   rw [repG_same (A:=A) lg _ fun j _ => hsame j,h.rep,updA_same,hs.wk,hs.h0,hs.hc,e4]
end
end
section
section
variable {F:FcS} {m:MemS} {N:Nat} {A:Nat→FaS} {g:Nat→Nat→Pl}
theorem chgL_le (a0:Nat) (f g:Nat→Pl):∀ n,(chgL a0 f g n).length≤2 * n
 | 0 => Nat.le_refl _
 | n + 1 => by
  have:=chgL_le a0 f g n
  rw [chgL,List.length_append]
  split
  ·simp; omega
  ·simp; omega
theorem oddsL_le (F:FcS) (k:Wk) (l:List Int) (h0:Nat):∀ n,(oddsL F k l h0 n).length≤n
 | 0 => Nat.le_refl _
 | n + 1 => by
  have:=oddsL_le F k l h0 n
  rw [oddsL,List.length_append]
  split
  ·simp; omega
  ·simp; omega
theorem evensL_le (F:FcS) (k:Wk) (l:List Int) (h0:Nat):∀ n,(evensL F k l h0 n).length≤n
 | 0 => Nat.le_refl _
 | n + 1 => by
  have:=evensL_le F k l h0 n
  rw [evensL,List.length_append]
  split
  ·simp; omega
  ·simp; omega
theorem wordsL_le (F:FcS) (k:Wk) (l:List Int) (h0:Nat):∀ n,(wordsL F k l h0 n).length≤n * (2 * F.n)
 | 0 => Nat.zero_le _
 | n + 1 => by
  have:=wordsL_le F k l h0 n
  rw [wordsL,List.length_append,Nat.add_mul,Nat.one_mul]
  split
  ·have h9:=chgL_le (F.cell (h0 + n) + 1) (segF F l n) (isF F k l n) F.n
   omega
  ·simp; omega
theorem wrL_le (F:FcS) (k:Wk) (l:List Int) (h0 n:Nat):(wrL F k l h0 n).length≤n * (F.W + 1):=by
 have h1:=oddsL_le F k l h0 n
 have h2:=wordsL_le F k l h0 n
 have h3:=evensL_le F k l h0 n
 rw [wrL,List.length_append,List.length_append]
 have:n * (F.W + 1)=n + (n * (2 * F.n) + n):=by
  unfold FcS.W
  rw [Nat.mul_add,Nat.mul_add,Nat.mul_one]
  omega
 omega
def muF (F:FcS) (a:FaS):Nat :=
 if a.st=0 then 0
 else if a.st=5 then a.held
 else if a.st=4 then (a.wr.length - a.wt) + a.lc
 else if a.st=3 then (a.hc * F.W - a.ld.length) + (a.hc * (F.W + 1) + a.lc)
 else if a.st=2 then (a.lc - a.held) + (a.hc * F.W + (a.hc * (F.W + 1) + a.lc))
 else ((F.tr - a.vain) * (F.W + 1) - a.ld.length) + (a.lc + (a.hc * F.W + (a.hc * (F.W + 1) + a.lc)))
theorem mu0 {a:FaS} (h:a.st=0):muF F a=0:=by unfold muF; rw [if_pos h]
theorem mu5 {a:FaS} (h:a.st=5):muF F a=a.held:=by unfold muF; rw [if_neg (by omega),if_pos h]
theorem mu4 {a:FaS} (h:a.st=4):muF F a=(a.wr.length - a.wt) + a.lc:=by unfold muF; rw [if_neg (by omega),if_neg (by omega),if_pos h]
theorem mu3 {a:FaS} (h:a.st=3):muF F a=(a.hc * F.W - a.ld.length) + (a.hc * (F.W + 1) + a.lc):=by unfold muF; rw [if_neg (by omega),if_neg (by omega),if_neg (by omega),if_pos h]
theorem mu2 {a:FaS} (h:a.st=2):muF F a=(a.lc - a.held) + (a.hc * F.W + (a.hc * (F.W + 1) + a.lc)):=by unfold muF; rw [if_neg (by omega),if_neg (by omega),if_neg (by omega),if_neg (by omega),if_pos h]
theorem mu1 {a:FaS} (h:a.st=1):muF F a=((F.tr - a.vain) * (F.W + 1) - a.ld.length) + (a.lc + (a.hc * F.W + (a.hc * (F.W + 1) + a.lc))):=by unfold muF; rw [if_neg (by omega),if_neg (by omega),if_neg (by omega),if_neg (by omega),if_neg (by omega)]
def Blocked (m:MemS) (a:FaS):Prop:=a.st=2∧m.h (a.l0 + a.held) ≠ -1
instance (m:MemS) (a:FaS):Decidable (Blocked m a):=by unfold Blocked; exact inferInstance
theorem mu_pos (h:FdbInv F m N A g) {i:Nat} (hi:i < N) (hst:(A i).st ≠ 0):0 < muF F (A i):=by
 have h5:=(h.stg i hi).le5
 have hlc:=(h.ok i hi).lc
 unfold muF
 rw [if_neg hst]
 by_cases e5:(A i).st=5
 ·rw [if_pos e5]; exact ((h.stg i hi).five e5).held
 rw [if_neg e5]
 by_cases e4:(A i).st=4
 ·rw [if_pos e4]; omega
 rw [if_neg e4]
 by_cases e3:(A i).st=3
 ·rw [if_pos e3]; omega
 rw [if_neg e3]
 by_cases e2:(A i).st=2
 ·rw [if_pos e2]; omega
 rw [if_neg e2]
 omega
theorem mu_step (h:FdbInv F m N A g) {i:Nat} (hi:i < N) (hst:(A i).st ≠ 0) (hb:¬ Blocked m (A i)):muF F (stepF F m (A i)).2 < muF F (A i):=by
 have hp:=mu_pos h hi hst
 have h5:=(h.stg i hi).le5
 have hlc:=(h.ok i hi).lc
 have hW:=F.W_pos
 unfold stepF
 by_cases e1:(A i).st=1
 ·rw [if_pos e1]
  have s1:=(h.stg i hi).one e1
  have hmu:=mu1 (F:=F) e1
  have hv:=s1.vain
  have hle:=s1.len
  have hc1:=s1.hc
  have hx:(F.tr - (A i).vain) * (F.W + 1)=(F.tr - (A i).vain - 1) * (F.W + 1) + (F.W + 1):=by
   rw [← Nat.succ_mul]; congr 1; omega
  unfold tryF
  by_cases hl:(A i).ld.length < (A i).hc * F.W
  ·rw [if_pos hl]
   rw [hc1,Nat.one_mul] at hl
   have hr:=mu1 (F:=F) (a:=rdA F m (A i)) e1
   have hlen:(rdA F m (A i)).ld.length=(A i).ld.length + 1:=by unfold rdA; simp
   rw [hlen] at hr
   show muF F (rdA F m (A i)) < _
   have hr2:muF F (rdA F m (A i))=((F.tr - (A i).vain) * (F.W + 1) - ((A i).ld.length + 1)) + ((A i).lc + ((A i).hc * F.W + ((A i).hc * (F.W + 1) + (A i).lc))):=hr
   rw [hr2,hmu]
   omega
  ·rw [if_neg hl]
   rw [hc1,Nat.one_mul] at hl
   by_cases hq:m.c (F.cell (A i).h0)=(A i).ld.getD 0 0∧m.c (F.cell (A i).h0) % 2=0
   ·rw [if_pos hq]
    exact Nat.lt_of_le_of_lt (Nat.le_of_eq (mu0 rfl)) hp
   ·rw [if_neg hq]
    by_cases hv1:(A i).vain + 1=F.tr
    ·rw [if_pos hv1,hmu]
     refine Nat.lt_of_le_of_lt (Nat.le_of_eq (mu2 rfl)) ?_
     show ((A i).lc - (A i).held) + ((A i).hc * F.W + ((A i).hc * (F.W + 1) + (A i).lc)) < _
     omega
    ·rw [if_neg hv1,hmu]
     refine Nat.lt_of_le_of_lt (Nat.le_of_eq (mu1 rfl)) ?_
     show ((F.tr - ((A i).vain + 1)) * (F.W + 1) - 0) + ((A i).lc + ((A i).hc * F.W + ((A i).hc * (F.W + 1) + (A i).lc))) < _
     rw [show F.tr - ((A i).vain + 1)=F.tr - (A i).vain - 1 by omega]
     omega
 rw [if_neg e1]
 by_cases e2:(A i).st=2
 ·rw [if_pos e2]
  have s2:=(h.stg i hi).two e2
  have hheld:=s2.held
  have hl:m.h ((A i).l0 + (A i).held)=-1:=by
   rcases Int.decEq (m.h ((A i).l0 + (A i).held)) (-1) with h9 | h9
   ·exact absurd ⟨e2,h9⟩ hb
   ·exact h9
  have hmu:=mu2 (F:=F) e2
  unfold takF
  rw [if_pos hl,hmu]
  by_cases hq:(A i).held + 1=(A i).lc
  ·rw [if_pos hq]
   refine Nat.lt_of_le_of_lt (Nat.le_of_eq (mu3 rfl)) ?_
   show ((A i).hc * F.W - (A i).ld.length) + ((A i).hc * (F.W + 1) + (A i).lc) < _
   omega
  ·rw [if_neg hq]
   refine Nat.lt_of_le_of_lt (Nat.le_of_eq (mu2 rfl)) ?_
   show ((A i).lc - ((A i).held + 1)) + ((A i).hc * F.W + ((A i).hc * (F.W + 1) + (A i).lc)) < _
   omega
 rw [if_neg e2]
 by_cases e3:(A i).st=3
 ·rw [if_pos e3]
  have s3:=(h.stg i hi).three e3
  have hlen:=s3.len
  have hmu:=mu3 (F:=F) e3
  have hrd:(rdA F m (A i)).ld.length=(A i).ld.length + 1:=by unfold rdA; simp
  have hheld:=s3.held
  unfold loaF
  rw [hmu]
  show muF F (if _ then _ else _) < _
  by_cases hq:(rdA F m (A i)).ld.length < (A i).hc * F.W
  ·rw [if_pos hq]
   have hr:=mu3 (F:=F) (a:=rdA F m (A i)) e3
   rw [hrd] at hr
   have hr2:muF F (rdA F m (A i))=((A i).hc * F.W - ((A i).ld.length + 1)) + ((A i).hc * (F.W + 1) + (A i).lc):=hr
   rw [hr2]
   omega
  ·rw [if_neg hq]
   have hwl:=wrL_le F (A i).wk (rdA F m (A i)).ld (A i).h0 (A i).hc
   by_cases hw:wrL F (A i).wk (rdA F m (A i)).ld (A i).h0 (A i).hc=[]
   ·have e5:(setA F (m.t + 1) (rdA F m (A i))).st=5:=by
     show (if _ then _ else _)=_
     exact if_pos hw
    refine Nat.lt_of_le_of_lt (Nat.le_of_eq (mu5 e5)) ?_
    show (A i).held < _
    omega
   ·have e5:(setA F (m.t + 1) (rdA F m (A i))).st=4:=by
     show (if _ then _ else _)=_
     exact if_neg hw
    refine Nat.lt_of_le_of_lt (Nat.le_of_eq (mu4 e5)) ?_
    show ((wrL F (A i).wk (rdA F m (A i)).ld (A i).h0 (A i).hc).length - (A i).wt) + (A i).lc < _
    omega
 rw [if_neg e3]
 by_cases e4:(A i).st=4
 ·rw [if_pos e4]
  obtain ⟨s4,hwt⟩:=(h.stg i hi).four e4
  have hheld:=s4.held
  have hmu:=mu4 (F:=F) e4
  unfold stoF
  rw [hmu]
  by_cases hq:(A i).wt + 1=(A i).wr.length
  ·rw [if_pos hq]
   refine Nat.lt_of_le_of_lt (Nat.le_of_eq (mu5 rfl)) ?_
   show (A i).held < _
   omega
  ·rw [if_neg hq]
   refine Nat.lt_of_le_of_lt (Nat.le_of_eq (mu4 rfl)) ?_
   show ((A i).wr.length - ((A i).wt + 1)) + (A i).lc < _
   omega
 rw [if_neg e4,if_pos (by omega)]
 have e5:(A i).st=5:=by omega
 have s5:=(h.stg i hi).five e5
 have hheld:=s5.held
 have hmu:=mu5 (F:=F) e5
 unfold freF
 rw [hmu]
 by_cases hq:(A i).held - 1=0
 ·rw [if_pos hq]
  refine Nat.lt_of_le_of_lt (Nat.le_of_eq (mu0 rfl)) ?_
  omega
 ·rw [if_neg hq]
  refine Nat.lt_of_le_of_lt (Nat.le_of_eq (mu5 e5)) ?_
  show (A i).held - 1 < _
  omega
theorem blocked_step {a:FaS} (hb:Blocked m a):stepF F m a=(tickS m,a):=by
 unfold stepF
 rw [if_neg (by have:=hb.1; omega),if_pos hb.1]
 unfold takF
 rw [if_neg hb.2]
theorem no_dead {lg:List Nat} {fr tt:Nat→Int} (h:RunP F m N A g lg fr tt) (P:Nat→Prop) (hP:∀ i,i < N→¬ P i→(A i).held=0) (hb:∀ i,i < N→P i→(A i).st ≠ 0→Blocked m (A i)):∀ i,i < N→P i→(A i).st=0:=by
 have key:∀ d i,F.lk + F.S - ((A i).l0 + (A i).held)≤d→i < N→P i→(A i).st=0:=by
  intro d
  induction d with
  | zero =>
   intro i hd hi hp
   rcases Nat.decEq (A i).st 0 with h0 | h0
   ·exfalso
    have s2:=(h.inv.stg i hi).two (hb i hi hp h0).1
    have:=s2.held
    have:=(h.inv.ok i hi).l2
    omega
   ·exact h0
  | succ d ih =>
   intro i hd hi hp
   rcases Nat.decEq (A i).st 0 with h0 | h0
   ·exfalso
    obtain ⟨b1,b2⟩:=hb i hi hp h0
    rcases h.lock ((A i).l0 + (A i).held) with h9 | ⟨j,hj,h9⟩
    ·exact b2 h9
    ·have hj0:(A j).held ≠ 0:=by omega
     by_cases hpj:P j
     ·have:=ih j (by have:=(h.inv.ok i hi).l2; have:=((h.inv.stg i hi).two b1).held; omega) hj hpj
      exact hj0 ((h.inv.stg j hj).held0 this)
     ·exact hj0 (hP j hj hpj)
   ·exact h0
 exact fun i hi hp => key _ i (Nat.le_refl _) hi hp
theorem RunP.free {lg:List Nat} {fr tt:Nat→Int} (h:RunP F m N A g lg fr tt) (h0:∀ i,i < N→(A i).st=0) (x:Nat):m.h x=-1:=by
 rcases h.lock x with h9 | ⟨j,hj,h9⟩
 ·exact h9
 ·have:=(h.inv.stg j hj).held0 (h0 j hj)
  omega
theorem RunP.book {lg:List Nat} {fr tt:Nat→Int} (h:RunP F m N A g lg fr tt) (h0:∀ i,i < N→(A i).st=0) {H:Nat} (hH:H < F.S * F.B):eqP F.n (bkM F m.c H) (g H) :=
 (h.inv.idle H hH fun i hi h4 => by have:=h0 i hi; omega).2
def boundF (F:FcS):Nat:=16 + F.tr * (4 + 4 * F.n) + F.S * (4 + F.B * (8 + 8 * F.n))
def wkO (K:Nat) (v:Int) (mc:Nat) (port vid:Int) (now old:Nat):Wk :=
 if K=0 then .look v mc
 else if K=3 then .order v mc port now
 else if K=4 then .drop v mc
 else if K=5 then .age now old
 else if K=6 then .flush port vid
 else .learn v mc port now
theorem upd_act {n:Nat} {a:FaS} {g:Nat→Nat→Pl} (hc:a.hc=1):actG n a g=updR g a.h0 (wkF n (g a.h0) a.wk).1:=by
 funext H
 unfold actG updR
 rw [hc]
 by_cases e:H=a.h0
 ·subst e; rw [if_pos (by omega),if_pos rfl]
 ·rw [if_neg (by omega),if_neg e]
theorem come_one {n:Nat} {a:FaS} {g:Nat→Nat→Pl} (hc:a.hc=1):comeG n a.wk g a.h0 a.hc=(wkF n (g a.h0) a.wk).2:=by
 rw [hc,comeG,comeG,Int.zero_add]
 rfl
theorem come_flush (n:Nat) (p v:Int) (g:Nat→Nat→Pl):∀ k,comeG n (.flush p v) g 0 k=(flC p v g n k:Nat)
 | 0 => rfl
 | k + 1 => by
  rw [comeG,come_flush n p v g k,flC,Nat.zero_add]
  show _ + ((flN p v (g k) n:Nat):Int)=_
  omega
theorem doG_act {K:Nat} (hK:K < 7) (v:Int) (mc:Nat) (port vid:Int) (now old:Nat) {a:FaS} {g:Nat→Nat→Pl} (hw:a.wk=wkO K v mc port vid now old)
  (h5:K < 5→a.h0=homeN v mc F.S F.B∧a.hc=1) (h6:K=5→atI F.S F.B port vid=(a.h0:Int)∧a.hc=1) (h7:K=6→a.h0=0∧a.hc=F.S * F.B) :
  doG K v mc port vid now old F.S F.B F.n g=(actG F.n a g,comeG F.n a.wk g a.h0 a.hc):=by
 rcases (show K=0 ∨ K=1 ∨ K=2 ∨ K=3 ∨ K=4 ∨ K=5 ∨ K=6 by omega) with rfl | rfl | rfl | rfl | rfl | rfl | rfl
 ·obtain ⟨e1,e2⟩:=h5 (by omega)
  rw [upd_act e2,come_one e2,hw,e1]
  show (g,_)=(_,_)
  congr 1
  funext H
  unfold updR
  split
  ·rename_i e; rw [e]; rfl
  ·rfl
 ·obtain ⟨e1,e2⟩:=h5 (by omega)
  rw [upd_act e2,come_one e2,hw,e1]
  rfl
 ·obtain ⟨e1,e2⟩:=h5 (by omega)
  rw [upd_act e2,come_one e2,hw,e1]
  rfl
 ·obtain ⟨e1,e2⟩:=h5 (by omega)
  rw [upd_act e2,come_one e2,hw,e1]
  rfl
 ·obtain ⟨e1,e2⟩:=h5 (by omega)
  rw [upd_act e2,come_one e2,hw,e1]
  rfl
 ·obtain ⟨e1,e2⟩:=h6 rfl
  rw [upd_act e2,come_one e2,hw]
  unfold doG
  rw [if_neg (by decide),if_neg (by decide),if_neg (by decide),if_pos rfl,if_neg (by omega),e1]
  rfl
 ·obtain ⟨e1,e2⟩:=h7 rfl
  have e3:wkO 6 v mc port vid now old=.flush port vid:=rfl
  rw [e1,e2,hw,e3,come_flush]
  unfold doG
  rw [if_neg (by decide),if_neg (by decide),if_neg (by decide),if_neg (by decide),if_pos rfl]
  congr 1
  funext H
  unfold actG flG
  rw [e1,e2,hw,e3]
  by_cases e:H < F.S * F.B
  ·rw [if_pos e,if_pos (by omega)]
   rfl
  ·rw [if_neg e,if_neg (by omega)]
end
end
end Go.Proofs.YthloabdfkakehaaGreat
