/-
  Words and contracts that a statement's proof rests on (PlainFg). No statement is proved here.
-/
import Derived.Test.YthloabdfkakehaaPlainFf
set_option linter.unusedVariables false
set_option linter.unusedSimpArgs false
namespace Go.Proofs.Ythloabdfkakehaa
section
variable {F:FcS} {m:MemS} {N:Nat} {A:Nat→FaS} {g:Nat→Nat→Pl} {a:FaS}
theorem prefix_snoc {p l:List (Nat × Int)} {x:Nat × Int} {k:Nat} (hk:k < l.length) (hx:l.getD k (0,0)=x):l.take (k + 1)=l.take k ++ [x]:=by
 rw [List.getD_eq_getElem?_getD,List.getElem?_eq_getElem hk] at hx
 rw [List.take_succ_eq_append_getElem hk]
 congr 2
theorem St4.next (h:St4 F m g a) (hok:a.wk.ok) (hlt:a.wt < a.wr.length):∃ j,j < a.hc∧inB8 F (a.h0 + j) (a.wr.getD a.wt (0,0)).1=true ∧
  (((a.wr.getD a.wt (0,0)).1=F.cell (a.h0 + j)∧(a.wr.getD a.wt (0,0)).2=m.c (F.cell (a.h0 + j)) + 1) ∨
   ((a.wr.getD a.wt (0,0)).1 ≠ F.cell (a.h0 + j)∧m.c (F.cell (a.h0 + j)) % 2=1∧0≤(a.wr.getD a.wt (0,0)).2∧(a.wr.getD a.wt (0,0)).2 < 18446744073709551616)):=by
 obtain ⟨x,hx⟩:∃ x,x=a.wr.getD a.wt (0,0):=⟨_,rfl⟩
 rw [← hx]
 have hmem:x ∈ wrL F a.wk a.ld a.h0 a.hc:=by
  rw [← h.wr,hx,List.getD_eq_getElem?_getD,List.getElem?_eq_getElem hlt]
  exact List.getElem_mem hlt
 obtain ⟨j,hj,hc,hin⟩:=wr_mem F a.wk a.ld a.h0 hmem
 refine ⟨j,hj,hin,?_⟩
 obtain ⟨p,hp,hpre,hmm⟩:=h.part hj
 obtain ⟨e1,e2,e3⟩:=h.ev j hj
 have hp2:p ++ [x] <+: seqB F a.wk a.ld a.h0 j:=by
  have h9:a.wr.take (a.wt + 1)=a.wr.take a.wt ++ [x]:=prefix_snoc (p:=p) hlt hx.symm
  have:(a.wr.take (a.wt + 1)).filter (fun x => inB8 F (a.h0 + j) x.1)=p ++ [x]:=by
   rw [h9,List.filter_append,← hp,List.filter_cons_of_pos (by simpa using hin),List.filter_nil]
  rw [← this,← wr_filter F a.wk a.ld a.h0 hj,← h.wr]
  exact (List.take_prefix _ _).filter _
 rw [seq_yes hc] at hp2 hpre
 have hcell:∀ q,q <+: chgL (F.cell (a.h0 + j) + 1) (segF F a.ld j) (isF F a.wk a.ld j) F.n→p=(F.cell (a.h0 + j),oddI (a.ld.getD (j * F.W) 0)) :: q→m.c (F.cell (a.h0 + j))=a.ld.getD (j * F.W) 0 + 1:=fun q hq e => by
  rw [e] at hmm
  exact h.some_ hj hq hmm
 rcases prefix3 hp2 with e | ⟨q,e,hq⟩ | e
 ·simp at e
 ·rcases List.eq_nil_or_concat q with hq0 | ⟨q',z,hq0⟩
  ·rw [hq0] at e
   have hp0:p=[]:=by have:=congrArg List.length e; simpa using this
   rw [hp0,List.nil_append] at e
   injection e with e _
   rw [hp0] at hmm
   have:=(h.none_ hmm).1
   left
   rw [e,this]
   exact ⟨rfl,oddI_even e2 e1⟩
  ·rw [hq0,List.concat_eq_append,← List.cons_append] at e
   obtain ⟨h1,h2⟩:=List.append_inj' e rfl
   injection h2 with h2 _
   have hzq:x ∈ q:=by rw [hq0,h2]; simp
   have hz:=chgL_in _ _ _ _ x (hq.subset hzq)
   have hq':q' <+: chgL (F.cell (a.h0 + j) + 1) (segF F a.ld j) (isF F a.wk a.ld j) F.n:=List.IsPrefix.trans (by rw [hq0,List.concat_eq_append]; exact List.prefix_append _ _) hq
   have:=hcell q' hq' h1
   right
   refine ⟨by omega,by omega,?_⟩
   have hg:∀ i,goodP (isF F a.wk a.ld j i):=fun i => wk_good (fun i => h.rng j i hj) F.n hok i
   exact chgL_rng _ _ _ hg _ x (hq.subset hzq)
 ·rw [← List.cons_append] at e
  obtain ⟨h1,h2⟩:=List.append_inj' e rfl
  injection h2 with h2 _
  have:=hcell _ (List.prefix_refl _) h1
  left
  rw [h2,this]
  refine ⟨rfl,?_⟩
  rw [evenI_even e2 e1 e3]
  omega
structure Same (a b:FaS):Prop where
 who:b.who=a.who
 wk:b.wk=a.wk
 l0:b.l0=a.l0
 lc:b.lc=a.lc
 h0:b.h0=a.h0
 hc:b.hc=a.hc
theorem ActOk.same {a b:FaS} (h:ActOk F a) (s:Same a b):ActOk F b where
 who:=by rw [s.who]; exact h.who
 wk:=by rw [s.wk]; exact h.wk
 hc:=by rw [s.hc]; exact h.hc
 hh:=by rw [s.h0,s.hc]; exact h.hh
 lc:=by rw [s.lc]; exact h.lc
 l1:=by rw [s.l0]; exact h.l1
 l2:=by rw [s.l0,s.lc]; exact h.l2
 cov:=fun H hH => by
  unfold Cov at hH
  rw [s.h0,s.hc] at hH
  rw [s.l0,s.lc]
  exact h.cov H hH
theorem updA_same (A:Nat→FaS) (i:Nat) (a:FaS):updA A i a i=a:=if_pos rfl
theorem updA_other (A:Nat→FaS) {i j:Nat} (a:FaS) (h:j ≠ i):updA A i a j=A j:=if_neg h
theorem FdbInv.step (h:FdbInv F m N A g) {i:Nat} (hi:i < N) {m':MemS} {a':FaS} {g':Nat→Nat→Pl} (hs:Same (A i) a') (hst:(A i).st ≠ 0)
  (hown:∀ x,x < a'.held→m'.h (a'.l0 + x)=a'.who)
  (hoth:∀ j,j < N→j ≠ i→∀ x,x < (A j).held→m'.h ((A j).l0 + x)=(A j).who)
  (hstg:StgOk F m' g' a') (hstgo:∀ j,j < N→j ≠ i→StgOk F m' g' (A j))
  (hidle:∀ H,H < F.S * F.B→(∀ j,j < N→j ≠ i→(A j).st=4→¬ Cov (A j) H)→(a'.st=4→¬ Cov a' H)→m'.c (F.cell H) % 2=0∧eqP F.n (bkM F m'.c H) (g' H))
  (hctr:∀ H,H < F.S * F.B→0≤m'.c (F.cell H)∧m'.c (F.cell H)≤m'.t)
  (hrng:∀ H,H < F.S * F.B→∀ x,x < 2 * F.n→m'.c (F.cell H + 1 + x) < 18446744073709551616)
  (hgood:∀ H i,goodP (g' H i)):FdbInv F m' N (updA A i a') g' where
 ok:=fun j hj => by
  by_cases e:j=i
  ·subst e; rw [updA_same]; exact (h.ok j hj).same hs
  ·rw [updA_other A a' e]; exact h.ok j hj
 stg:=fun j hj => by
  by_cases e:j=i
  ·subst e; rw [updA_same]; exact hstg
  ·rw [updA_other A a' e]; exact hstgo j hj e
 own:=fun j hj => by
  by_cases e:j=i
  ·subst e; rw [updA_same]; exact hown
  ·rw [updA_other A a' e]; exact hoth j hj e
 uniq:=fun j k hj hk hne => by
  by_cases e:j=i
  ·by_cases e2:k=i
   ·exact absurd (e.trans e2.symm) hne
   ·rw [e,updA_same,updA_other A a' e2]
    intro _ h2
    rw [hs.who]
    exact h.uniq i k hi hk (fun h => e2 h.symm) hst h2
  ·by_cases e2:k=i
   ·rw [e2,updA_same,updA_other A a' e]
    intro h1 _
    rw [hs.who]
    exact h.uniq j i hj hi e h1 hst
   ·rw [updA_other A a' e,updA_other A a' e2]
    exact h.uniq j k hj hk hne
 idle:=fun H hH hn => by
  refine hidle H hH (fun j hj hne h4 => ?_) (fun h4 => ?_)
  ·have:=hn j hj
   rw [updA_other A a' hne] at this
   exact this h4
  ·have:=hn i hi
   rw [updA_same] at this
   exact this h4
 ctr:=hctr
 rng:=hrng
 good:=hgood
theorem StgOk.cong {m':MemS} {g':Nat→Nat→Pl} {a:FaS} (h:StgOk F m g a) (hc:∀ H y,Cov a H→inB8 F H y=true→m'.c y=m.c y) (hg:∀ H,Cov a H→g' H=g H):StgOk F m' g' a:=by
 have hcell:∀ x,x < a.hc * F.W→m'.c (F.cell a.h0 + x)=m.c (F.cell a.h0 + x):=fun x hx => by
  have hW:=F.W_pos
  have h1:x / F.W < a.hc:=by rw [Nat.div_lt_iff_lt_mul hW]; exact hx
  refine hc (a.h0 + x / F.W) _ ⟨Nat.le_add_right _ _,Nat.add_lt_add_left h1 _⟩ ?_
  rw [inB8_iff,cell_add]
  have h2:=Nat.div_add_mod x F.W
  have h3:=Nat.mod_lt x hW
  rw [Nat.mul_comm] at h2
  omega
 rcases h with h | ⟨e,h⟩ | h | ⟨e,h⟩ | ⟨e,h,hw⟩ | h
 ·exact .inl h
 ·refine .inr (.inl ⟨e,{ h with rd:=fun h0 => ?_ }⟩)
  have hc1:=h.hc
  have h00:=hcell 0 (by rw [hc1]; have:=F.W_pos; omega)
  rw [Nat.add_zero] at h00
  obtain ⟨r1,r2⟩:=h.rd h0
  rw [h00]
  refine ⟨r1,fun r3 r4 x hx => ?_⟩
  rw [hcell x (by rw [hc1]; have:=h.len; omega)]
  exact r2 r3 r4 x hx
 ·exact .inr (.inr (.inl h))
 ·refine .inr (.inr (.inr (.inl ⟨e,{ h with rd:=fun x hx => ?_ }⟩)))
  rw [hcell x (by have:=h.len; omega)]
  exact h.rd x hx
 ·refine .inr (.inr (.inr (.inr (.inl ⟨e,{ h with mem:=fun x hx => ?_,pre:=fun hp => ⟨(h.pre hp).1,fun j hj => ?_⟩,post:=fun hp => ⟨(h.post hp).1,fun j hj => ?_⟩ },hw⟩))))
  ·rw [hcell x hx]
   exact h.mem x hx
  ·rw [hg _ ⟨by omega,by omega⟩]
   exact (h.pre hp).2 j hj
  ·rw [hg _ ⟨by omega,by omega⟩]
   exact (h.post hp).2 j hj
 ·exact .inr (.inr (.inr (.inr (.inr h))))
theorem FdbInv.quiet (h:FdbInv F m N A g) {i:Nat} (hi:i < N) {m':MemS} {a':FaS} (hc:m'.c=m.c) (ht:m.t≤m'.t) (hs:Same (A i) a') (hst:(A i).st ≠ 0) (h4:(A i).st ≠ 4) (h4':a'.st ≠ 4)
  (hown:∀ x,x < a'.held→m'.h (a'.l0 + x)=a'.who)
  (hoth:∀ j,j < N→j ≠ i→∀ x,x < (A j).held→m'.h ((A j).l0 + x)=(A j).who) (hstg:StgOk F m' g a'):FdbInv F m' N (updA A i a') g :=
 h.step hi hs hst hown hoth hstg (fun j hj _ => (h.stg j hj).cong (fun _ _ _ _ => by rw [hc]) (fun _ _ => rfl))
  (fun H hH hn _ => by
   rw [hc]
   refine h.idle H hH fun j hj e => ?_
   by_cases hji:j=i
   ·rw [hji] at e; exact absurd e h4
   ·exact hn j hj hji e)
  (fun H hH => by rw [hc]; have:=h.ctr H hH; omega) (fun H hH => by rw [hc]; exact h.rng H hH) h.good
theorem FdbInv.even (h:FdbInv F m N A g) {H:Nat} (hH:H < F.S * F.B) (he:m.c (F.cell H) % 2=0):eqP F.n (bkM F m.c H) (g H):=by
 by_cases hx:∃ i,i < N∧(A i).st=4∧Cov (A i) H
 ·obtain ⟨i,hi,h4,c1,c2⟩:=hx
  have h9:=(((h.stg i hi).four h4).1).bk (h.ok i hi).wk (j:=H - (A i).h0) (by omega)
  rw [show (A i).h0 + (H - (A i).h0)=H by omega] at h9
  exact h9.2 he
 ·exact (h.idle H hH fun i hi h4 hc => hx ⟨i,hi,h4,hc⟩).2
theorem FdbInv.mine (h:FdbInv F m N A g) {i H:Nat} (hi:i < N) (hx:(A i).held=(A i).lc) (h4:(A i).st ≠ 4) (hc:Cov (A i) H):m.c (F.cell H) % 2=0∧eqP F.n (bkM F m.c H) (g H):=by
 refine h.idle H (by have:=(h.ok i hi).hh; have:=hc.2; omega) fun j hj e hcj => ?_
 have he:j=i:=h.excl hj hi (((h.stg j hj).four e).1.held) hx hcj hc
 rw [he] at e
 exact h4 e
theorem FdbInv.others (h:FdbInv F m N A g) {i:Nat} (hi:i < N) (hx:(A i).held=(A i).lc) {m':MemS} {g':Nat→Nat→Pl}
  (hc:∀ y,(∀ H,Cov (A i) H→inB8 F H y=false)→m'.c y=m.c y) (hg:∀ H,¬ Cov (A i) H→g' H=g H)
  (h1:∀ H,Cov (A i) H→(∀ y,inB8 F H y=true→m'.c y=m.c y) ∨ (m.c (F.cell H)≤m'.c (F.cell H)∧(m'.c (F.cell H) % 2=1 ∨ m.c (F.cell H) < m'.c (F.cell H)))) :
  ∀ j,j < N→j ≠ i→StgOk F m' g' (A j):=by
 intro j hj hne
 by_cases h1j:(A j).st=1
 ·have hs:=(h.stg j hj).one h1j
  refine .inr (.inl ⟨h1j,{ hs with rd:=fun h0 => ?_ }⟩)
  obtain ⟨r1,r2⟩:=hs.rd h0
  have hW:=F.W_pos
  have hsame:(∀ y,inB8 F (A j).h0 y=true→m'.c y=m.c y)→(A j).ld.getD 0 0≤m'.c (F.cell (A j).h0)∧((A j).ld.getD 0 0 % 2=0→m'.c (F.cell (A j).h0)=(A j).ld.getD 0 0→∀ x,x < (A j).ld.length→(A j).ld.getD x 0=m'.c (F.cell (A j).h0 + x)):=fun hy => by
   have h00:=hy (F.cell (A j).h0) (inB8_self F _ 0 hW)
   rw [h00]
   refine ⟨r1,fun r3 r4 x hx => ?_⟩
   rw [hy _ (inB8_self F _ x (by have:=hs.len; omega))]
   exact r2 r3 r4 x hx
  by_cases hcov:Cov (A i) (A j).h0
  ·rcases h1 _ hcov with h9 | ⟨h9,h8⟩
   ·exact hsame h9
   ·exact ⟨by omega,fun r3 r4 => by omega⟩
  ·exact hsame fun y hy => hc y fun H hH => inB8_other hy fun e => hcov (by rw [e]; exact hH)
 ·have hfar:∀ H,Cov (A j) H→(A j).st=3 ∨ (A j).st=4→¬ Cov (A i) H:=fun H hcj hst hci => by
   refine hne (h.excl hj hi ?_ hx hcj hci)
   rcases hst with e | e
   ·exact ((h.stg j hj).three e).held
   ·exact ((h.stg j hj).four e).1.held
  rcases h.stg j hj with h2 | ⟨e,_⟩ | h2 | h2 | h2 | h2
  ·exact .inl h2
  ·exact absurd e h1j
  ·exact .inr (.inr (.inl h2))
  ·refine StgOk.cong (m:=m) (g:=g) (.inr (.inr (.inr (.inl h2)))) (fun H y hcj hy => ?_) (fun H hcj => hg H (hfar H hcj (.inl h2.1)))
   exact hc y fun H' hH' => inB8_other hy fun e => hfar H hcj (.inl h2.1) (by rw [e]; exact hH')
  ·refine StgOk.cong (m:=m) (g:=g) (.inr (.inr (.inr (.inr (.inl h2))))) (fun H y hcj hy => ?_) (fun H hcj => hg H (hfar H hcj (.inr h2.1)))
   exact hc y fun H' hH' => inB8_other hy fun e => hfar H hcj (.inr h2.1) (by rw [e]; exact hH')
  ·exact .inr (.inr (.inr (.inr (.inr h2))))
def comeG (n:Nat) (k:Wk) (g:Nat→Nat→Pl) (h0:Nat):Nat→Int
 | 0 => 0
 | j + 1 => comeG n k g h0 j + (wkF n (g (h0 + j)) k).2
def actG (n:Nat) (a:FaS) (g:Nat→Nat→Pl) (H:Nat):Nat→Pl:=if a.h0≤H∧H < a.h0 + a.hc then (wkF n (g H) a.wk).1 else g H
theorem actG_in {n H:Nat} (h:Cov a H):actG n a g H=(wkF n (g H) a.wk).1:=if_pos h
theorem actG_out {n H:Nat} (h:¬ Cov a H):actG n a g H=g H:=if_neg h
theorem actG_good (h:∀ H i,goodP (g H i)) (n:Nat) (hk:a.wk.ok) (H i:Nat):goodP (actG n a g H i):=by
 unfold actG
 split
 ·exact wk_good (h H) n hk i
 ·exact h H i
theorem came_eq {ld:List Int} {h0:Nat} (k:Wk):∀ N,(∀ j,j < N→eqP F.n (g (h0 + j)) (segF F ld j))→cameS F k ld N=comeG F.n k g h0 N
 | 0,_ => rfl
 | N + 1,h => by
  rw [cameS,comeG,came_eq k N (fun j hj => h j (by omega)),(wk_congr (h N (by omega)) k).1]
end
end Go.Proofs.Ythloabdfkakehaa
