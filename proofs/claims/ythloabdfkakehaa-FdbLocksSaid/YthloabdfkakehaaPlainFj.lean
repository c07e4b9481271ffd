/-
  Words and contracts that a statement's proof rests on (PlainFj). No statement is proved here.
-/
import Derived.Test.YthloabdfkakehaaPlainFi
set_option linter.unusedVariables false
set_option linter.unusedSimpArgs false
namespace Go.Proofs.Ythloabdfkakehaa
section
variable {F:FcS} {m:MemS} {N:Nat} {A:Nat→FaS} {g:Nat→Nat→Pl}
theorem FdbInv.more (h:FdbInv F m N A g) {a:FaS} (hok:ActOk F a) (hs:StgOk F m g a) (hh:a.held=0) (h4:a.st ≠ 4) (hu:∀ i,i < N→(A i).st ≠ 0→(A i).who ≠ a.who):FdbInv F m (N + 1) (updA A N a) g where
 ok:=fun i hi => by
  unfold updA
  split
  ·exact hok
  ·exact h.ok i (by omega)
 stg:=fun i hi => by
  unfold updA
  split
  ·exact hs
  ·exact h.stg i (by omega)
 own:=fun i hi x hx => by
  by_cases e:i=N
  ·subst e; rw [updA_same,hh] at hx; omega
  ·rw [updA_other _ _ e] at hx ⊢; exact h.own i (by omega) x hx
 uniq:=fun i j hi hj hne h1 h2 => by
  by_cases e:i=N
  ·subst e
   rw [updA_same]
   rw [updA_other _ _ (Ne.symm hne)] at h2 ⊢
   exact fun e => hu j (by omega) h2 e.symm
  ·rw [updA_other _ _ e] at h1 ⊢
   by_cases e2:j=N
   ·subst e2; rw [updA_same]; exact hu i (by omega) h1
   ·rw [updA_other _ _ e2] at h2 ⊢; exact h.uniq i j (by omega) (by omega) hne h1 h2
 idle:=fun H hH hn => h.idle H hH fun i hi h4 => by
  have:=hn i (by omega)
  rw [updA_other _ _ (by omega)] at this
  exact this h4
 ctr:=h.ctr
 rng:=h.rng
 good:=h.good
theorem FdbInv.start (F:FcS) (C L:Nat) (A:Nat→FaS):FdbInv F ⟨C,L,fun _ => 0,fun _ => -1,0⟩ 0 A (fun _ _ => pl0) where
 ok:=fun i hi => absurd hi (by omega)
 stg:=fun i hi => absurd hi (by omega)
 own:=fun i hi => absurd hi (by omega)
 uniq:=fun i j hi => absurd hi (by omega)
 idle:=fun H hH _ => ⟨rfl,fun i hi => by
  show decP 0 0=pl0
  decide +kernel⟩
 ctr:=fun H hH => ⟨Int.le_refl 0,Int.le_refl 0⟩
 rng:=fun H hH x hx => show (0:Int) < _ by decide
 good:=fun H i => good_pl0
def repG (n:Nat) (A:Nat→FaS):(Nat→Nat→Pl)→List Nat→(Nat→Nat→Pl)
 | g,[] => g
 | g,i :: l => repG n A (actG n (A i) g) l
def ansG (n:Nat) (A:Nat→FaS):(Nat→Nat→Pl)→List Nat→Prop
 | g,[] => True
 | g,i :: l => (A i).ans=comeG n (A i).wk g (A i).h0 (A i).hc∧ansG n A (actG n (A i) g) l
theorem repG_snoc (n:Nat) (A:Nat→FaS) (i:Nat):∀ (l:List Nat) (g:Nat→Nat→Pl),repG n A g (l ++ [i])=actG n (A i) (repG n A g l)
 | [],g => rfl
 | j :: l,g => repG_snoc n A i l _
theorem ansG_snoc (n:Nat) (A:Nat→FaS) (i:Nat):∀ (l:List Nat) (g:Nat→Nat→Pl),ansG n A g l→(A i).ans=comeG n (A i).wk (repG n A g l) (A i).h0 (A i).hc→ansG n A g (l ++ [i])
 | [],g,_,h => ⟨h,trivial⟩
 | j :: l,g,h1,h => ⟨h1.1,ansG_snoc n A i l _ h1.2 h⟩
theorem actG_same {n:Nat} {a b:FaS} (s:Same a b) (g:Nat→Nat→Pl):actG n b g=actG n a g:=by
 funext H
 unfold actG
 rw [s.h0,s.hc,s.wk]
theorem repG_same {n:Nat} {A A':Nat→FaS}:∀ (l:List Nat) (g:Nat→Nat→Pl),(∀ i ∈ l,Same (A i) (A' i))→repG n A' g l=repG n A g l
 | [],g,_ => rfl
 | j :: l,g,h => by
  rw [repG,repG,actG_same (h j (List.mem_cons_self ..))]
  exact repG_same l _ fun i hi => h i (List.mem_cons_of_mem _ hi)
theorem ansG_same {n:Nat} {A A':Nat→FaS}:∀ (l:List Nat) (g:Nat→Nat→Pl),(∀ i ∈ l,Same (A i) (A' i)∧(A' i).ans=(A i).ans)→ansG n A g l→ansG n A' g l
 | [],g,_,_ => trivial
 | j :: l,g,h,h1 => by
  obtain ⟨s,e⟩:=h j (List.mem_cons_self ..)
  refine ⟨?_,?_⟩
  ·rw [e,s.wk,s.h0,s.hc]; exact h1.1
  ·rw [actG_same s]
   exact ansG_same l _ (fun i hi => h i (List.mem_cons_of_mem _ hi)) h1.2
theorem step_locks (h:FdbInv F m N A g) {i:Nat} (hi:i < N) (hst:(A i).st ≠ 0) :
  ((stepF F m (A i)).1.h=m.h∧(stepF F m (A i)).2.held=(A i).held) ∨
  ((A i).st=2∧m.h ((A i).l0 + (A i).held)=-1∧(stepF F m (A i)).1.h=(fun j => if j=(A i).l0 + (A i).held then (A i).who else m.h j)∧(stepF F m (A i)).2.held=(A i).held + 1) ∨
  ((A i).st=5∧1≤(A i).held∧(stepF F m (A i)).1.h=(fun j => if j=(A i).l0 + ((A i).held - 1) then -1 else m.h j)∧(stepF F m (A i)).2.held=(A i).held - 1):=by
 have h5:=(h.stg i hi).le5
 unfold stepF
 by_cases e1:(A i).st=1
 ·rw [if_pos e1]
  left
  unfold tryF
  split
  ·exact ⟨rfl,rfl⟩
  ·split
   ·exact ⟨rfl,rfl⟩
   ·exact ⟨rfl,rfl⟩
 rw [if_neg e1]
 by_cases e2:(A i).st=2
 ·rw [if_pos e2]
  unfold takF
  by_cases hl:m.h ((A i).l0 + (A i).held)=-1
  ·rw [if_pos hl]
   exact .inr (.inl ⟨e2,hl,rfl,rfl⟩)
  ·rw [if_neg hl]
   exact .inl ⟨rfl,rfl⟩
 rw [if_neg e2]
 by_cases e3:(A i).st=3
 ·rw [if_pos e3]
  left
  unfold loaF
  refine ⟨rfl,?_⟩
  show FaS.held (if _ then _ else _)=_
  split
  ·rfl
  ·rfl
 rw [if_neg e3]
 by_cases e4:(A i).st=4
 ·rw [if_pos e4]
  left
  exact ⟨rfl,rfl⟩
 rw [if_neg e4,if_pos (by omega)]
 have s5:=(h.stg i hi).five (by omega)
 have ho:=h.own i hi ((A i).held - 1) (by have:=s5.held; omega)
 right
 right
 refine ⟨by omega,s5.held,?_,?_⟩
 ·unfold freF
  rw [if_pos ho]
  rfl
 ·unfold freF
  show FaS.held (if _ then _ else _)=_
  split
  ·rename_i h0; exact h0.symm
  ·rfl
structure RunP (F:FcS) (m:MemS) (N:Nat) (A:Nat→FaS) (g:Nat→Nat→Pl) (lg:List Nat) (fr tt:Nat→Int):Prop where
 inv:FdbInv F m N A g
 t0:0≤m.t
 lin:∀ i ∈ lg,i < N∧0 < (A i).mark
 lall:∀ i,i < N→(A i).mark ≠ 0→i ∈ lg
 ord:lg.Pairwise fun i j => (A i).mark < (A j).mark
 top:∀ i,i < N→0≤(A i).mark∧(A i).mark≤m.t
 rep:repG F.n A (fun _ _ => pl0) lg=g
 ans:ansG F.n A (fun _ _ => pl0) lg
 fr:∀ i,i < N→0≤fr i∧fr i≤m.t∧((A i).mark=0 ∨ fr i < (A i).mark)
 tt:∀ i,i < N→((A i).st ≠ 0∧tt i=-1) ∨ ((A i).st=0∧0 < (A i).mark∧(A i).mark≤tt i∧tt i≤m.t)
 lock:∀ x,m.h x=-1 ∨ ∃ i,i < N∧(A i).l0≤x∧x < (A i).l0 + (A i).held
def updI (f:Nat→Int) (k:Nat) (v:Int) (i:Nat):Int:=if i=k then v else f i
theorem RunP.start (F:FcS) (C L:Nat) (A:Nat→FaS) (fr tt:Nat→Int):RunP F ⟨C,L,fun _ => 0,fun _ => -1,0⟩ 0 A (fun _ _ => pl0) [] fr tt where
 inv:=FdbInv.start F C L A
 t0:=Int.le_refl 0
 lin:=fun i hi => by cases hi
 lall:=fun i hi => absurd hi (by omega)
 ord:=List.Pairwise.nil
 top:=fun i hi => absurd hi (by omega)
 rep:=rfl
 ans:=trivial
 fr:=fun i hi => absurd hi (by omega)
 tt:=fun i hi => absurd hi (by omega)
 lock:=fun x => .inl rfl
theorem RunP.more {lg:List Nat} {fr tt:Nat→Int} (h:RunP F m N A g lg fr tt) {a:FaS} (hok:ActOk F a) (hs:StgOk F m g a) (hh:a.held=0) (h0:a.st ≠ 0) (h4:a.st ≠ 4) (hm:a.mark=0) (hu:∀ i,i < N→(A i).st ≠ 0→(A i).who ≠ a.who):RunP F m (N + 1) (updA A N a) g lg (updI fr N m.t) (updI tt N (-1)) where
 inv:=h.inv.more hok hs hh h4 hu
 t0:=h.t0
 lin:=fun i hi => by
  obtain ⟨h1,h2⟩:=h.lin i hi
  rw [updA_other _ _ (by omega)]
  exact ⟨by omega,h2⟩
 lall:=fun i hi h9 => by
  by_cases e:i=N
  ·subst e; rw [updA_same] at h9; exact absurd hm h9
  ·rw [updA_other _ _ e] at h9; exact h.lall i (by omega) h9
 ord:=h.ord.imp_of_mem fun {i j} hi hj h9 => by
  rw [updA_other _ _ (by have:=(h.lin i hi).1; omega),updA_other _ _ (by have:=(h.lin j hj).1; omega)]
  exact h9
 top:=fun i hi => by
  by_cases e:i=N
  ·subst e; rw [updA_same,hm]; exact ⟨Int.le_refl 0,h.t0⟩
  ·rw [updA_other _ _ e]; exact h.top i (by omega)
 rep:=by
  rw [repG_same (A:=A) lg _ fun i hi => by rw [updA_other _ _ (by have:=(h.lin i hi).1; omega)]; exact Same.rfl_ _]
  exact h.rep
 ans:=ansG_same (A:=A) lg _ (fun i hi => by rw [updA_other _ _ (by have:=(h.lin i hi).1; omega)]; exact ⟨Same.rfl_ _,rfl⟩) h.ans
 fr:=fun i hi => by
  unfold updI
  by_cases e:i=N
  ·subst e; rw [updA_same,if_pos rfl]; exact ⟨h.t0,Int.le_refl _,.inl hm⟩
  ·rw [updA_other _ _ e,if_neg e]; exact h.fr i (by omega)
 tt:=fun i hi => by
  unfold updI
  by_cases e:i=N
  ·subst e; rw [updA_same,if_pos rfl]; exact .inl ⟨h0,rfl⟩
  ·rw [updA_other _ _ e,if_neg e]; exact h.tt i (by omega)
 lock:=fun x => by
  rcases h.lock x with h9 | ⟨i,h1,h2⟩
  ·exact .inl h9
  ·exact .inr ⟨i,by omega,by rw [updA_other _ _ (by omega)]; exact h2⟩
theorem RunP.step {lg:List Nat} {fr tt:Nat→Int} (h:RunP F m N A g lg fr tt) {i:Nat} (hi:i < N) (ht2:m.t≤4611686018427387904) (hst:(A i).st ≠ 0) :
  ∃ g' lg',RunP F (stepF F m (A i)).1 N (updA A i (stepF F m (A i)).2) g' lg' fr (if (stepF F m (A i)).2.st=0 then updI tt i (m.t + 1) else tt):=by
 obtain ⟨g',hinv,hs,he,htt⟩:=step_went h.inv hi h.t0 ht2 hst
 have hlk:=step_locks h.inv hi hst
 have h9:=h.top i hi
 have hf9:=h.fr i hi
 have ht9:=h.tt i hi
 have hst9:(stepF F m (A i)).2.st=0→0 < (stepF F m (A i)).2.mark:=fun e => by
  have:=hinv.stg i hi
  rw [updA_same] at this
  rcases this with ⟨_,_,h8⟩ | ⟨h8,_⟩ | ⟨h8,_⟩ | ⟨h8,_⟩ | ⟨h8,_⟩ | ⟨h8,_⟩
  ·exact h8
  all_goals (exfalso; omega)
 generalize stepF F m (A i)=r at *
 have hmk:r.2.mark=(A i).mark ∨ ((A i).mark=0∧r.2.mark=m.t + 1):=by
  rcases he with ⟨e1,_⟩ | ⟨e1,e2,_⟩
  ·exact .inl e1
  ·exact .inr ⟨e1,by rw [e2,htt]⟩
 have hlock:∀ x,r.1.h x=-1 ∨ ∃ j,j < N∧(updA A i r.2 j).l0≤x∧x < (updA A i r.2 j).l0 + (updA A i r.2 j).held:=fun x => by
  have hother:∀ j,j < N→j ≠ i→((A j).l0≤x∧x < (A j).l0 + (A j).held)→∃ j,j < N∧(updA A i r.2 j).l0≤x∧x < (updA A i r.2 j).l0 + (updA A i r.2 j).held:=fun j hj hne h8 => ⟨j,hj,by rw [updA_other _ _ hne]; exact h8⟩
  rcases hlk with ⟨e1,e2⟩ | ⟨_,_,e1,e2⟩ | ⟨_,e0,e1,e2⟩
  ·rw [e1]
   rcases h.lock x with h8 | ⟨j,hj,h8⟩
   ·exact .inl h8
   ·right
    by_cases e:j=i
    ·subst e; exact ⟨j,hj,by rw [updA_same,hs.l0,e2]; exact h8⟩
    ·exact hother j hj e h8
  ·rw [e1]
   by_cases ex:x=(A i).l0 + (A i).held
   ·right
    exact ⟨i,hi,by rw [updA_same,hs.l0,e2]; omega⟩
   ·show (if _ then _ else _)=_ ∨ _
    rw [if_neg ex]
    rcases h.lock x with h8 | ⟨j,hj,h8⟩
    ·exact .inl h8
    ·right
     by_cases e:j=i
     ·subst e; exact ⟨j,hj,by rw [updA_same,hs.l0,e2]; omega⟩
     ·exact hother j hj e h8
  ·rw [e1]
   by_cases ex:x=(A i).l0 + ((A i).held - 1)
   ·left
    show (if _ then _ else _)=_
    rw [if_pos ex]
   ·show (if _ then _ else _)=_ ∨ _
    rw [if_neg ex]
    rcases h.lock x with h8 | ⟨j,hj,h8⟩
    ·exact .inl h8
    ·right
     by_cases e:j=i
     ·subst e; exact ⟨j,hj,by rw [updA_same,hs.l0,e2]; omega⟩
     ·exact hother j hj e h8
 have hsame:∀ j,Same (A j) (updA A i r.2 j):=fun j => by
  by_cases e:j=i
  ·subst e; rw [updA_same]; exact hs
  ·rw [updA_other _ _ e]; exact Same.rfl_ _
 have hfr:∀ j,j < N→0≤fr j∧fr j≤r.1.t∧((updA A i r.2 j).mark=0 ∨ fr j < (updA A i r.2 j).mark):=fun j hj => by
  have:=h.fr j hj
  by_cases e:j=i
  ·subst e; rw [updA_same]; omega
  ·rw [updA_other _ _ e]; omega
 have htop:∀ j,j < N→0≤(updA A i r.2 j).mark∧(updA A i r.2 j).mark≤r.1.t:=fun j hj => by
  have:=h.top j hj
  have:=h.t0
  by_cases e:j=i
  ·subst e; rw [updA_same]; omega
  ·rw [updA_other _ _ e]; omega
 have htt2:∀ j,j < N→((updA A i r.2 j).st ≠ 0∧(if r.2.st=0 then updI tt i (m.t + 1) else tt) j=-1) ∨ ((updA A i r.2 j).st=0∧0 < (updA A i r.2 j).mark∧(updA A i r.2 j).mark≤(if r.2.st=0 then updI tt i (m.t + 1) else tt) j∧(if r.2.st=0 then updI tt i (m.t + 1) else tt) j≤r.1.t):=fun j hj => by
  have h7:=h.tt j hj
  by_cases e:j=i
  ·subst e
   rw [updA_same]
   by_cases e0:r.2.st=0
   ·right
    rw [if_pos e0]
    unfold updI
    rw [if_pos rfl]
    have h8:=hst9 e0
    exact ⟨e0,h8,by omega,by omega⟩
   ·left
    rw [if_neg e0]
    exact ⟨e0,by rcases h7 with h7 | h7; exact h7.2; exact absurd h7.1 hst⟩
  ·rw [updA_other _ _ e]
   have e2:(if r.2.st=0 then updI tt i (m.t + 1) else tt) j=tt j:=by
    split
    ·unfold updI; rw [if_neg e]
    ·rfl
   rw [e2]
   rcases h7 with h7 | h7
   ·exact .inl h7
   ·exact .inr ⟨h7.1,h7.2.1,h7.2.2.1,by omega⟩
 rcases he with ⟨e1,e2,e3⟩ | ⟨e1,e2,e3,e4⟩
 ·refine ⟨g',lg,hinv,by have:=h.t0; omega,fun j hj => ?_,fun j hj h8 => ?_,h.ord.imp_of_mem fun {j k} hj hk h8 => ?_,htop,?_,?_,hfr,htt2,hlock⟩
  ·obtain ⟨a1,a2⟩:=h.lin j hj
   refine ⟨a1,?_⟩
   by_cases e:j=i
   ·subst e; rw [updA_same,e1]; exact a2
   ·rw [updA_other _ _ e]; exact a2
  ·by_cases e:j=i
   ·subst e; rw [updA_same,e1] at h8; exact h.lall j hj h8
   ·rw [updA_other _ _ e] at h8; exact h.lall j hj h8
  ·have hmm:∀ j,(updA A i r.2 j).mark=(A j).mark:=fun j => by
    by_cases e:j=i
    ·subst e; rw [updA_same,e1]
    ·rw [updA_other _ _ e]
   rw [hmm,hmm]; exact h8
  ·rw [repG_same (A:=A) lg _ fun j _ => hsame j,e2]; exact h.rep
  ·refine ansG_same (A:=A) lg _ (fun j hj => ⟨hsame j,?_⟩) h.ans
   by_cases e:j=i
   ·subst e; rw [updA_same]; exact e3 (by have:=(h.lin j hj).2; omega)
   ·rw [updA_other _ _ e]
 ·have hni:i ∉ lg:=fun hm => by have:=(h.lin i hm).2; omega
  have hne:∀ j ∈ lg,j ≠ i:=fun j hj e => hni (e ▸ hj)
  refine ⟨g',lg ++ [i],hinv,by have:=h.t0; omega,fun j hj => ?_,fun j hj h8 => ?_,?_,htop,?_,?_,hfr,htt2,hlock⟩
  ·rw [List.mem_append,List.mem_singleton] at hj
   rcases hj with hj | hj
   ·rw [updA_other _ _ (hne j hj)]; exact h.lin j hj
   ·subst hj; rw [updA_same,e2]; exact ⟨hi,by have:=h.t0; omega⟩
  ·rw [List.mem_append,List.mem_singleton]
   by_cases e:j=i
   ·exact .inr e
   ·rw [updA_other _ _ e] at h8; exact .inl (h.lall j hj h8)
  ·rw [List.pairwise_append]
   refine ⟨h.ord.imp_of_mem fun {j k} hj hk h8 => ?_,List.pairwise_singleton _ _,fun j hj k hk => ?_⟩
   ·rw [updA_other _ _ (hne j hj),updA_other _ _ (hne k hk)]; exact h8
   ·rw [List.mem_singleton] at hk
    subst hk
    rw [updA_same,updA_other _ _ (hne j hj),e2]
    have:=(h.top j (h.lin j hj).1).2
    omega
  ·rw [repG_snoc,repG_same (A:=A) lg _ fun j _ => hsame j,h.rep,updA_same,actG_same hs,e3]
  ·refine ansG_snoc _ _ _ _ _ (ansG_same (A:=A) lg _ (fun j hj => ⟨hsame j,by rw [updA_other _ _ (hne j hj)]⟩) h.ans) ?_
   rw [repG_same (A:=A) lg _ fun j _ => hsame j,h.rep,updA_same,hs.wk,hs.h0,hs.hc,e4]
end
end Go.Proofs.Ythloabdfkakehaa
