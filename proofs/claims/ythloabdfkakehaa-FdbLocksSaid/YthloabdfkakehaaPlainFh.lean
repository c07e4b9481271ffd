/-
  Words and contracts that a statement's proof rests on (PlainFh). No statement is proved here.
-/
import Derived.Test.YthloabdfkakehaaPlainFg
set_option linter.unusedVariables false
set_option linter.unusedSimpArgs false
namespace Go.Proofs.Ythloabdfkakehaa
def Eff (F:FcS) (m':MemS) (a a':FaS) (g g':Nat→Nat→Pl):Prop :=
 (a'.mark=a.mark∧g'=g∧(a.mark ≠ 0→a'.ans=a.ans)) ∨ (a.mark=0∧a'.mark=m'.t∧g'=actG F.n a g∧a'.ans=comeG F.n a.wk g a.h0 a.hc)
def Went (F:FcS) (m:MemS) (N:Nat) (A:Nat→FaS) (g:Nat→Nat→Pl) (i:Nat) (r:MemS × FaS):Prop :=
 ∃ g',FdbInv F r.1 N (updA A i r.2) g'∧Same (A i) r.2∧Eff F r.1 (A i) r.2 g g'∧r.1.t=m.t + 1
theorem Same.rfl_ (a:FaS):Same a a:=⟨rfl,rfl,rfl,rfl,rfl,rfl⟩
theorem getD_snoc (l:List Int) (v:Int) (x:Nat):(l ++ [v]).getD x 0=if x < l.length then l.getD x 0 else if x=l.length then v else 0:=by
 simp only [List.getD_eq_getElem?_getD]
 by_cases h:x < l.length
 ·rw [List.getElem?_append_left h,if_pos h]
 ·rw [List.getElem?_append_right (by omega),if_neg h]
  by_cases e:x=l.length
  ·rw [if_pos e,e]; simp
  ·rw [if_neg e,List.getElem?_eq_none (by simp; omega)]; rfl
section
variable {F:FcS} {m:MemS} {N:Nat} {A:Nat→FaS} {g:Nat→Nat→Pl}
theorem try_went (h:FdbInv F m N A g) {i:Nat} (hi:i < N) (ht:0≤m.t) (hst:(A i).st=1):Went F m N A g i (tryF F m (A i)):=by
 have s1:=(h.stg i hi).one hst
 have hok:=h.ok i hi
 have hW:=F.W_pos
 unfold tryF
 by_cases hl:(A i).ld.length < (A i).hc * F.W
 ·rw [if_pos hl]
  refine ⟨g,h.quiet hi rfl (by show m.t≤m.t + 1; omega) ⟨rfl,rfl,rfl,rfl,rfl,rfl⟩ (by omega) (by omega) (by show (A i).st ≠ 4; omega) (h.own i hi) (fun j hj _ => h.own j hj) ?_,⟨rfl,rfl,rfl,rfl,rfl,rfl⟩,.inl ⟨rfl,rfl,fun _ => rfl⟩,rfl⟩
  refine .inr (.inl ⟨hst,{ hc:=s1.hc,held:=s1.held,look:=s1.look,mark:=s1.mark,wt:=s1.wt,ans:=s1.ans,vain:=s1.vain,len:=?_,rd:=fun _ => ?_ }⟩)
  ·show ((A i).ld ++ [_]).length≤F.W
   rw [List.length_append,List.length_singleton]
   rw [s1.hc,Nat.one_mul] at hl
   omega
  ·show ((A i).ld ++ [m.c (F.cell (A i).h0 + (A i).ld.length)]).getD 0 0≤m.c (F.cell (A i).h0)∧(((A i).ld ++ [m.c (F.cell (A i).h0 + (A i).ld.length)]).getD 0 0 % 2=0→m.c (F.cell (A i).h0)=((A i).ld ++ [m.c (F.cell (A i).h0 + (A i).ld.length)]).getD 0 0→∀ x,x < ((A i).ld ++ [m.c (F.cell (A i).h0 + (A i).ld.length)]).length→((A i).ld ++ [m.c (F.cell (A i).h0 + (A i).ld.length)]).getD x 0=m.c (F.cell (A i).h0 + x))
   rcases Nat.eq_zero_or_pos (A i).ld.length with h0 | h0
   ·rw [getD_snoc,if_neg (by omega),if_pos h0.symm,h0,Nat.add_zero]
    refine ⟨Int.le_refl _,fun _ _ x hx => ?_⟩
    rw [List.length_append,List.length_singleton] at hx
    have:x=0:=by omega
    subst this
    rw [getD_snoc,if_neg (by omega),if_pos h0.symm,Nat.add_zero]
   ·obtain ⟨r1,r2⟩:=s1.rd h0
    rw [getD_snoc,if_pos h0]
    refine ⟨r1,fun r3 r4 x hx => ?_⟩
    rw [List.length_append,List.length_singleton] at hx
    rw [getD_snoc]
    by_cases e:x < (A i).ld.length
    ·rw [if_pos e]; exact r2 r3 r4 x e
    ·have e2:x=(A i).ld.length:=by omega
     rw [if_neg e,if_pos e2,e2]
 ·rw [if_neg hl]
  have hlen:(A i).ld.length=F.W:=by rw [s1.hc,Nat.one_mul] at hl; have:=s1.len; omega
  by_cases hc:m.c (F.cell (A i).h0)=(A i).ld.getD 0 0∧m.c (F.cell (A i).h0) % 2=0
  ·rw [if_pos hc]
   obtain ⟨r1,r2⟩:=s1.rd (by omega)
   have r5:=r2 (by omega) hc.1
   have hseg:eqP F.n (segF F (A i).ld 0) (g ((A i).h0 + 0)):=by
    refine (seg_bkM (c:=m.c) (h0:=(A i).h0) (fun x hx => ?_)).trans (h.even (by have:=hok.hh; have:=hok.hc; omega) hc.2)
    rw [Nat.zero_mul,Nat.zero_add,Nat.add_zero]
    exact r5 x (by omega)
   obtain ⟨v,q,hwk⟩:=s1.look
   refine ⟨g,h.quiet hi rfl (by show m.t≤m.t + 1; omega) ⟨rfl,rfl,rfl,rfl,rfl,rfl⟩ (by omega) (by omega) (by show (0:Nat) ≠ 4; omega) (h.own i hi) (fun j hj _ => h.own j hj) (.inl ⟨rfl,s1.held,by show 0 < m.t + 1; omega⟩),⟨rfl,rfl,rfl,rfl,rfl,rfl⟩,.inr ⟨s1.mark,rfl,?_,?_⟩,rfl⟩
   ·funext H
    unfold actG
    rw [hwk]
    show g H=if _ then g H else g H
    rw [ite_self]
   ·show (wkF F.n (segF F (A i).ld 0) (A i).wk).2=comeG F.n (A i).wk g (A i).h0 (A i).hc
    rw [s1.hc]
    show _=0 + (wkF F.n (g ((A i).h0 + 0)) (A i).wk).2
    rw [(wk_congr hseg (A i).wk).1]
    omega
  ·rw [if_neg hc]
   refine ⟨g,h.quiet hi rfl (by show m.t≤m.t + 1; omega) ⟨rfl,rfl,rfl,rfl,rfl,rfl⟩ (by omega) (by omega) (by show (if _ then 2 else 1) ≠ 4; split <;> omega) (h.own i hi) (fun j hj _ => h.own j hj) ?_,⟨rfl,rfl,rfl,rfl,rfl,rfl⟩,.inl ⟨rfl,rfl,fun _ => rfl⟩,rfl⟩
   by_cases hv:(A i).vain + 1=F.tr
   ·refine .inr (.inr (.inl ⟨?_,?_⟩))
    ·show (if _ then 2 else 1)=2
     rw [if_pos hv]
    ·exact { held:=by show (A i).held < (A i).lc; rw [s1.held]; exact hok.lc,mark:=s1.mark,wt:=s1.wt,ans:=s1.ans,ld:=rfl }
   ·refine .inr (.inl ⟨?_,?_⟩)
    ·show (if _ then 2 else 1)=1
     rw [if_neg hv]
    ·exact { hc:=s1.hc,held:=s1.held,look:=s1.look,mark:=s1.mark,wt:=s1.wt,ans:=s1.ans,len:=Nat.zero_le _,vain:=by show (A i).vain + 1 < F.tr; have:=s1.vain; omega,rd:=fun h0 => absurd h0 (by show ¬ 0 < ([]:List Int).length; simp) }
theorem tak_went (h:FdbInv F m N A g) {i:Nat} (hi:i < N) (hst:(A i).st=2):Went F m N A g i (takF m (A i)):=by
 have s2:=(h.stg i hi).two hst
 have hok:=h.ok i hi
 unfold takF
 by_cases hl:m.h ((A i).l0 + (A i).held)=-1
 ·rw [if_pos hl]
  refine ⟨g,h.quiet hi rfl (by show m.t≤m.t + 1; omega) ⟨rfl,rfl,rfl,rfl,rfl,rfl⟩ (by omega) (by omega) (by show (if _ then 3 else 2) ≠ 4; split <;> omega) (fun x hx => ?_) (fun j hj hne x hx => ?_) ?_,⟨rfl,rfl,rfl,rfl,rfl,rfl⟩,.inl ⟨rfl,rfl,fun _ => rfl⟩,rfl⟩
  ·show (if (A i).l0 + x=(A i).l0 + (A i).held then (A i).who else m.h ((A i).l0 + x))=(A i).who
   have hx':x < (A i).held + 1:=hx
   by_cases e:x=(A i).held
   ·rw [if_pos (by omega)]
   ·rw [if_neg (by omega)]; exact h.own i hi x (by omega)
  ·show (if (A j).l0 + x=(A i).l0 + (A i).held then (A i).who else m.h ((A j).l0 + x))=(A j).who
   have:=h.own j hj x hx
   by_cases e:(A j).l0 + x=(A i).l0 + (A i).held
   ·exfalso
    rw [e,hl] at this
    have:=(h.ok j hj).who
    omega
   ·rw [if_neg e]; exact this
  ·by_cases hv:(A i).held + 1=(A i).lc
   ·refine .inr (.inr (.inr (.inl ⟨?_,?_⟩)))
    ·show (if _ then 3 else 2)=3
     rw [if_pos hv]
    ·refine { held:=hv,mark:=s2.mark,wt:=s2.wt,ans:=s2.ans,len:=?_,rd:=fun x hx => ?_ }
     ·show (A i).ld.length < _
      rw [s2.ld]
      exact Nat.mul_pos hok.hc F.W_pos
     ·have hx':x < (A i).ld.length:=hx
      rw [s2.ld] at hx'
      exact absurd hx' (by simp)
   ·refine .inr (.inr (.inl ⟨?_,?_⟩))
    ·show (if _ then 3 else 2)=2
     rw [if_neg hv]
    ·exact { held:=by show (A i).held + 1 < (A i).lc; have:=s2.held; omega,mark:=s2.mark,wt:=s2.wt,ans:=s2.ans,ld:=s2.ld }
 ·rw [if_neg hl]
  exact ⟨g,h.quiet hi rfl (by show m.t≤m.t + 1; omega) (Same.rfl_ _) (by omega) (by omega) (by show (A i).st ≠ 4; omega) (h.own i hi) (fun j hj _ => h.own j hj) (.inr (.inr (.inl ⟨hst,s2⟩))),Same.rfl_ _,.inl ⟨rfl,rfl,fun _ => rfl⟩,rfl⟩
theorem fre_went (h:FdbInv F m N A g) {i:Nat} (hi:i < N) (hst:(A i).st=5):Went F m N A g i (freF m (A i)):=by
 have s5:=(h.stg i hi).five hst
 have hok:=h.ok i hi
 have h1:=s5.held
 have hl:=h.own i hi ((A i).held - 1) (by omega)
 have hoth:∀ j,j < N→j ≠ i→∀ x,x < (A j).held→(putL (tickS m) ((A i).l0 + ((A i).held - 1)) (-1)).h ((A j).l0 + x)=(A j).who:=fun j hj hne x hx => by
  show (if (A j).l0 + x=(A i).l0 + ((A i).held - 1) then -1 else m.h ((A j).l0 + x))=(A j).who
  rw [if_neg (fun e => hne (h.lock_one hj hi hx (by omega) e))]
  exact h.own j hj x hx
 unfold freF
 rw [if_pos hl]
 by_cases hz:(A i).held - 1=0
 ·rw [if_pos hz]
  exact ⟨g,h.quiet hi rfl (by show m.t≤m.t + 1; omega) ⟨rfl,rfl,rfl,rfl,rfl,rfl⟩ (by omega) (by omega) (by show (0:Nat) ≠ 4; omega) (fun x hx => absurd hx (by show ¬ x < 0; omega)) hoth (.inl ⟨rfl,rfl,s5.mark⟩),⟨rfl,rfl,rfl,rfl,rfl,rfl⟩,.inl ⟨rfl,rfl,fun _ => rfl⟩,rfl⟩
 ·rw [if_neg hz]
  refine ⟨g,h.quiet hi rfl (by show m.t≤m.t + 1; omega) ⟨rfl,rfl,rfl,rfl,rfl,rfl⟩ (by omega) (by omega) (by show (A i).st ≠ 4; omega) (fun x hx => ?_) hoth (.inr (.inr (.inr (.inr (.inr ⟨hst,{ held:=?_,le:=?_,mark:=s5.mark }⟩))))),⟨rfl,rfl,rfl,rfl,rfl,rfl⟩,.inl ⟨rfl,rfl,fun _ => rfl⟩,rfl⟩
  ·have hx':x < (A i).held - 1:=hx
   show (if (A i).l0 + x=(A i).l0 + ((A i).held - 1) then -1 else m.h ((A i).l0 + x))=(A i).who
   rw [if_neg (by omega)]
   exact h.own i hi x (by omega)
  ·show 1≤(A i).held - 1; omega
  ·show (A i).held - 1≤(A i).lc; have:=s5.le; omega
theorem loa_went (h:FdbInv F m N A g) {i:Nat} (hi:i < N) (ht:0≤m.t) (ht2:m.t≤4611686018427387904) (hst:(A i).st=3):Went F m N A g i (loaF F m (A i)):=by
 have s3:=(h.stg i hi).three hst
 have hok:=h.ok i hi
 have hW:=F.W_pos
 have hlen:(rdA F m (A i)).ld.length=(A i).ld.length + 1:=by show ((A i).ld ++ [_]).length=_; simp
 have hrd:∀ x,x < (rdA F m (A i)).ld.length→(rdA F m (A i)).ld.getD x 0=m.c (F.cell (A i).h0 + x):=fun x hx => by
  show ((A i).ld ++ [_]).getD x 0=_
  rw [getD_snoc]
  by_cases e:x < (A i).ld.length
  ·rw [if_pos e]; exact s3.rd x e
  ·have e2:x=(A i).ld.length:=by omega
   rw [if_neg e,if_pos e2,e2]
 unfold loaF
 by_cases hl:(rdA F m (A i)).ld.length < (A i).hc * F.W
 ·rw [if_pos hl]
  exact ⟨g,h.quiet hi rfl (by show m.t≤m.t + 1; omega) ⟨rfl,rfl,rfl,rfl,rfl,rfl⟩ (by omega) (by omega) (by show (A i).st ≠ 4; omega) (h.own i hi) (fun j hj _ => h.own j hj) (.inr (.inr (.inr (.inl ⟨hst,{ held:=s3.held,mark:=s3.mark,wt:=s3.wt,ans:=s3.ans,len:=hl,rd:=hrd }⟩)))),⟨rfl,rfl,rfl,rfl,rfl,rfl⟩,.inl ⟨rfl,rfl,fun _ => rfl⟩,rfl⟩
 ·rw [if_neg hl]
  have hfull:(rdA F m (A i)).ld.length=(A i).hc * F.W:=by have:=s3.len; omega
  rw [hfull] at hrd
  obtain ⟨ld,hld⟩:∃ ld,ld=(rdA F m (A i)).ld:=⟨_,rfl⟩
  have hcov:∀ j,j < (A i).hc→Cov (A i) ((A i).h0 + j):=fun j hj => ⟨by omega,by omega⟩
  have hmine:∀ j,j < (A i).hc→m.c (F.cell ((A i).h0 + j)) % 2=0∧eqP F.n (bkM F m.c ((A i).h0 + j)) (g ((A i).h0 + j)):=fun j hj => h.mine hi s3.held (by omega) (hcov j hj)
  have hbk:∀ j,j < (A i).hc→eqP F.n (segF F ld j) (bkM F m.c ((A i).h0 + j)):=fun j hj => seg_bkM fun x hx => by
   have hm:=mulW (F:=F) hj
   rw [hld,hrd _ (by omega),cell_add]
   congr 1
   omega
  have hseg:∀ j,j < (A i).hc→eqP F.n (g ((A i).h0 + j)) (segF F ld j):=fun j hj => ((hbk j hj).trans (hmine j hj).2).symm
  have hans:cameS F (A i).wk ld (A i).hc=comeG F.n (A i).wk g (A i).h0 (A i).hc:=came_eq _ _ hseg
  have hctr:∀ j,j < (A i).hc→ld.getD (j * F.W) 0=m.c (F.cell ((A i).h0 + j)):=fun j hj => by
   have hm:=mulW (F:=F) hj
   rw [hld,hrd _ (by omega),cell_add]
  by_cases hnil:wrL F (A i).wk ld (A i).h0 (A i).hc=[]
  ·have hset:setA F (m.t + 1) (rdA F m (A i))={ (A i) with ld:=ld,ans:=(A i).ans + cameS F (A i).wk ld (A i).hc,od:=(oddsL F (A i).wk ld (A i).h0 (A i).hc).length,wr:=wrL F (A i).wk ld (A i).h0 (A i).hc,st:=5,mark:=m.t + 1 }:=by
    have hw:wrL F (rdA F m (A i)).wk (rdA F m (A i)).ld (rdA F m (A i)).h0 (rdA F m (A i)).hc=[]:=by rw [← hld]; exact hnil
    unfold setA
    rw [if_pos hw,if_pos hw]
    subst hld
    rfl
   rw [hset]
   have hno:=(wr_nil F (A i).wk ld (A i).h0).1 hnil
   refine ⟨actG F.n (A i) g,?_,⟨rfl,rfl,rfl,rfl,rfl,rfl⟩,.inr ⟨s3.mark,rfl,rfl,?_⟩,rfl⟩
   ·refine h.step hi ⟨rfl,rfl,rfl,rfl,rfl,rfl⟩ (by omega) (h.own i hi) (fun j hj _ => h.own j hj) (.inr (.inr (.inr (.inr (.inr ⟨rfl,{ held:=?_,le:=?_,mark:=?_ }⟩)))))
     (h.others hi s3.held (fun _ _ => rfl) (fun H hH => actG_out hH) (fun H _ => .inl fun _ _ => rfl)) (fun H hH hn _ => ?_) (fun H hH => ?_) h.rng (actG_good h.good F.n hok.wk)
    ·show 1≤(A i).held; rw [s3.held]; exact hok.lc
    ·show (A i).held≤(A i).lc; rw [s3.held]; exact Nat.le_refl _
    ·show 0 < m.t + 1; omega
    ·by_cases hc:Cov (A i) H
     ·obtain ⟨c1,c2⟩:=hc
      have hj:H - (A i).h0 < (A i).hc:=by omega
      have e:(A i).h0 + (H - (A i).h0)=H:=by omega
      have m1:=hmine _ hj
      have b1:=hbk _ hj
      have g1:=hseg _ hj
      rw [e] at m1 b1 g1
      refine ⟨m1.1,?_⟩
      rw [actG_in ⟨c1,c2⟩]
      have d1:eqP F.n (segF F ld (H - (A i).h0)) (isF F (A i).wk ld (H - (A i).h0)):=difB_iff.1 (hno _ hj)
      exact b1.symm.trans (d1.trans (wk_congr g1.symm (A i).wk).2)
     ·rw [actG_out hc]
      refine h.idle H hH fun j hj e => ?_
      by_cases hji:j=i
      ·rw [hji]; exact hc
      ·exact hn j hj hji e
    ·have:=h.ctr H hH; show 0≤m.c _∧m.c _≤m.t + 1; omega
   ·show (A i).ans + cameS F (A i).wk ld (A i).hc=_
    rw [s3.ans,hans]
    omega
  ·have hset:setA F (m.t + 1) (rdA F m (A i))={ (A i) with ld:=ld,ans:=(A i).ans + cameS F (A i).wk ld (A i).hc,od:=(oddsL F (A i).wk ld (A i).h0 (A i).hc).length,wr:=wrL F (A i).wk ld (A i).h0 (A i).hc,st:=4 }:=by
    have hw:¬ wrL F (rdA F m (A i)).wk (rdA F m (A i)).ld (rdA F m (A i)).h0 (rdA F m (A i)).hc=[]:=by rw [← hld]; exact hnil
    unfold setA
    rw [if_neg hw,if_neg hw]
    subst hld
    rfl
   rw [hset]
   refine ⟨g,?_,⟨rfl,rfl,rfl,rfl,rfl,rfl⟩,.inl ⟨rfl,rfl,fun h0 => absurd s3.mark h0⟩,rfl⟩
   have hall:∀ x,ld.getD x 0 < 18446744073709551616:=fun x => by
    rcases Nat.lt_or_ge x ((A i).hc * F.W) with hx | hx
    ·rw [hld,hrd x hx]
     have h1:x / F.W < (A i).hc:=by rw [Nat.div_lt_iff_lt_mul hW]; exact hx
     have h2:=Nat.div_add_mod x F.W
     have h3:=Nat.mod_lt x hW
     rw [Nat.mul_comm] at h2
     have hH:(A i).h0 + x / F.W < F.S * F.B:=Nat.lt_of_lt_of_le (Nat.add_lt_add_left h1 _) hok.hh
     have e:F.cell (A i).h0 + x=F.cell ((A i).h0 + x / F.W) + x % F.W:=by rw [cell_add]; omega
     rw [e]
     rcases Nat.eq_zero_or_pos (x % F.W) with h0 | h0
     ·rw [h0,Nat.add_zero]
      have:=h.ctr _ hH
      omega
     ·have:=h.rng _ hH (x % F.W - 1) (by have e:F.W=1 + 2 * F.n:=rfl; omega)
      rw [show F.cell ((A i).h0 + x / F.W) + 1 + (x % F.W - 1)=F.cell ((A i).h0 + x / F.W) + x % F.W by omega] at this
      exact this
    ·rw [List.getD_eq_getElem?_getD,List.getElem?_eq_none (by rw [hld,hfull]; exact hx)]
     decide
   refine h.step hi ⟨rfl,rfl,rfl,rfl,rfl,rfl⟩ (by omega) (h.own i hi) (fun j hj _ => h.own j hj) (.inr (.inr (.inr (.inr (.inl ⟨rfl,?_,?_⟩)))))
    (fun j hj _ => (h.stg j hj).cong (fun _ _ _ _ => rfl) (fun _ _ => rfl)) (fun H hH hn hn2 => ?_) (fun H hH => ?_) h.rng h.good
   ·refine { held:=s3.held,len:=by rw [hld]; exact hfull,wr:=rfl,od:=rfl,wt:=?_,ev:=fun j hj => ?_,rng:=fun j i' hj => dec_good (hall _),mem:=fun x hx => ?_,ans:=?_,pre:=fun _ => ⟨s3.mark,hseg⟩,post:=fun hp => ?_ }
    ·show (A i).wt≤_; rw [s3.wt]; exact Nat.zero_le _
    ·show ld.getD (j * F.W) 0 % 2=0∧0≤ld.getD (j * F.W) 0∧ld.getD (j * F.W) 0≤4611686018427387904
     have hj':j < (A i).hc:=hj
     have h1:=(hmine j hj').1
     have h2:=h.ctr ((A i).h0 + j) (by have:=hok.hh; omega)
     rw [hctr j hj']
     omega
    ·show m.c (F.cell (A i).h0 + x)=putsC (fun y => ld.getD (y - F.cell (A i).h0) 0) ((wrL F (A i).wk ld (A i).h0 (A i).hc).take (A i).wt) (F.cell (A i).h0 + x)
     rw [s3.wt]
     show _=ld.getD (F.cell (A i).h0 + x - F.cell (A i).h0) 0
     rw [Nat.add_sub_cancel_left,hld]
     exact (hrd x hx).symm
    ·show (A i).ans + _=_; rw [s3.ans]; show 0 + cameS F (A i).wk ld (A i).hc=cameS F (A i).wk ld (A i).hc; omega
    ·exfalso
     have hp':(oddsL F (A i).wk ld (A i).h0 (A i).hc).length≤(A i).wt:=hp
     rw [s3.wt] at hp'
     have:=odds_pos F (A i).wk ld (A i).h0 hnil
     omega
   ·show (A i).wt < (wrL F (A i).wk ld (A i).h0 (A i).hc).length
    rw [s3.wt]
    exact List.length_pos_iff.2 hnil
   ·refine h.idle H hH fun j hj e => ?_
    by_cases hji:j=i
    ·rw [hji]; exact hn2 rfl
    ·exact hn j hj hji e
   ·have:=h.ctr H hH; show 0≤m.c _∧m.c _≤m.t + 1; omega
theorem sto_went (h:FdbInv F m N A g) {i:Nat} (hi:i < N) (ht:0≤m.t) (hst:(A i).st=4):Went F m N A g i (stoF m (A i)):=by
 obtain ⟨s4,hlt⟩:=(h.stg i hi).four hst
 have hok:=h.ok i hi
 have hW:=F.W_pos
 obtain ⟨j,hj,hin,hnx⟩:=s4.next hok.wk hlt
 unfold stoF
 obtain ⟨x,hx⟩:∃ x,x=(A i).wr.getD (A i).wt (0,0):=⟨_,rfl⟩
 rw [← hx] at hin hnx ⊢
 obtain ⟨m',hm'⟩:∃ m',m'=putC (tickS m) x.1 x.2:=⟨_,rfl⟩
 have hmc:∀ y,m'.c y=if y=x.1 then x.2 else m.c y:=fun y => by rw [hm']; rfl
 have hmt:m'.t=m.t + 1:=by rw [hm']; rfl
 have hmh:m'.h=m.h:=by rw [hm']; rfl
 rw [← hm']
 obtain ⟨a',ha'⟩:∃ a',a'={ (A i) with wt:=(A i).wt + 1,mark:=if (A i).wt + 1=(A i).od then m.t + 1 else (A i).mark,st:=if (A i).wt + 1=(A i).wr.length then 5 else 4 }:=⟨_,rfl⟩
 rw [← ha']
 have hsame:Same (A i) a':=by rw [ha']; exact ⟨rfl,rfl,rfl,rfl,rfl,rfl⟩
 have hmark:a'.mark=if (A i).wt + 1=(A i).od then m.t + 1 else (A i).mark:=by rw [ha']
 have hst':a'.st=if (A i).wt + 1=(A i).wr.length then 5 else 4:=by rw [ha']
 have hwt:a'.wt=(A i).wt + 1:=by rw [ha']
 have hheld:a'.held=(A i).held:=by rw [ha']
 have hld:a'.ld=(A i).ld:=by rw [ha']
 have hwr:a'.wr=(A i).wr:=by rw [ha']
 have hod:a'.od=(A i).od:=by rw [ha']
 have hans:a'.ans=(A i).ans:=by rw [ha']
 clear ha' hm'
 obtain ⟨g',hg'⟩:∃ g',g'=if (A i).wt + 1=(A i).od then actG F.n (A i) g else g:=⟨_,rfl⟩
 have hgout:∀ H,¬ Cov (A i) H→g' H=g H:=fun H hH => by
  rw [hg']
  split
  ·exact actG_out hH
  ·rfl
 have hpos:0 < (A i).od:=by
  rw [s4.od]
  refine odds_pos F _ _ _ fun e => ?_
  rw [← s4.wr] at e
  rw [e] at hlt
  simp at hlt
 have core:St4 F m' g' a':=by
  refine { held:=by rw [hheld,hsame.lc]; exact s4.held,len:=by rw [hld,hsame.hc]; exact s4.len,wr:=by rw [hwr,hsame.wk,hld,hsame.h0,hsame.hc]; exact s4.wr,od:=by rw [hod,hsame.wk,hld,hsame.h0,hsame.hc]; exact s4.od,wt:=by rw [hwt,hwr]; exact hlt,ev:=by rw [hld,hsame.hc]; exact s4.ev,rng:=by rw [hld,hsame.hc]; exact s4.rng,mem:=?_,ans:=by rw [hans,hsame.wk,hld,hsame.hc]; exact s4.ans,pre:=fun hp => ?_,post:=fun hp => ?_ }
  ·rw [hld,hwr,hwt,hsame.h0,hsame.hc]
   intro y hy
   rw [prefix_snoc (p:=[]) hlt hx.symm,putsC_snoc,hmc]
   split
   ·rfl
   ·exact s4.mem y hy
  ·rw [hwt,hod] at hp
   rw [hmark,if_neg (by omega),hg',if_neg (by omega),hsame.hc,hsame.h0,hld]
   exact s4.pre (by omega)
  ·rw [hwt,hod] at hp
   rw [hsame.hc,hsame.h0,hld,hsame.wk,hmark]
   by_cases e:(A i).wt + 1=(A i).od
   ·rw [if_pos e,hg',if_pos e]
    refine ⟨by omega,fun k hk => ?_⟩
    rw [actG_in (show Cov (A i) ((A i).h0 + k) from ⟨by omega,by omega⟩)]
    exact (wk_congr ((s4.pre (by omega)).2 k hk) (A i).wk).2
   ·rw [if_neg e,hg',if_neg e]
    exact s4.post (by omega)
 have hcovj:Cov (A i) ((A i).h0 + j):=⟨by omega,by omega⟩
 have hfar:∀ H,H ≠ (A i).h0 + j→∀ y,inB8 F H y=true→m'.c y=m.c y:=fun H hne y hy => by
  rw [hmc,if_neg (fun e => hne (inB8_uniq hy (by rw [e]; exact hin)))]
 have hself:m.c (F.cell ((A i).h0 + j))≤m'.c (F.cell ((A i).h0 + j))∧m'.c (F.cell ((A i).h0 + j))≤m.c (F.cell ((A i).h0 + j)) + 1∧(m'.c (F.cell ((A i).h0 + j)) % 2=1 ∨ m.c (F.cell ((A i).h0 + j)) < m'.c (F.cell ((A i).h0 + j))):=by
  rw [hmc]
  rcases hnx with ⟨e1,e2⟩ | ⟨e1,e2,_⟩
  ·rw [if_pos e1.symm,e2]; omega
  ·rw [if_neg (fun e => e1 e.symm)]; omega
 refine ⟨g',?_,hsame,?_,hmt⟩
 ·refine h.step hi hsame (by omega) (fun x hx => ?_) (fun j hj _ => by rw [hmh]; exact h.own j hj) ?_
   (h.others hi s4.held (fun y hy => ?_) hgout (fun H hH => ?_)) (fun H hH hn hn2 => ?_) (fun H hH => ?_) (fun H hH y hy => ?_) (by rw [hg']; split; exact actG_good h.good F.n hok.wk; exact h.good)
  ·rw [hmh,hsame.l0,hsame.who]
   exact h.own i hi x (by rw [← hheld]; exact hx)
  ·by_cases e:(A i).wt + 1=(A i).wr.length
   ·refine .inr (.inr (.inr (.inr (.inr ⟨by rw [hst',if_pos e],{ held:=by rw [hheld,s4.held]; exact hok.lc,le:=by rw [hheld,hsame.lc,s4.held]; exact Nat.le_refl _,mark:=(core.post ?_).1 }⟩))))
    rw [hwt,hod,e,s4.od,s4.wr]
    unfold wrL
    rw [List.length_append]
    omega
   ·exact .inr (.inr (.inr (.inr (.inl ⟨by rw [hst',if_neg e],core,by rw [hwt,hwr]; omega⟩))))
  ·rw [hmc,if_neg (fun e => by have:=hy _ hcovj; rw [e,hin] at this; cases this)]
  ·by_cases e:H=(A i).h0 + j
   ·rw [e]; exact .inr ⟨hself.1,hself.2.2⟩
   ·exact .inl (hfar H e)
  ·by_cases hc:Cov (A i) H
   ·have e:(A i).wt + 1=(A i).wr.length:=by
     rcases Nat.decEq ((A i).wt + 1) (A i).wr.length with e | e
     ·exfalso
      refine hn2 (by rw [hst',if_neg e]) ?_
      unfold Cov
      rw [hsame.h0,hsame.hc]
      exact hc
     ·exact e
    obtain ⟨c1,c2⟩:=hc
    have hk:H - (A i).h0 < a'.hc:=by rw [hsame.hc]; omega
    have d1:=core.done (by rw [hsame.wk]; exact hok.wk) (by rw [hwt,hwr]; exact e) hk
    have d2:=(core.bk (by rw [hsame.wk]; exact hok.wk) hk).2 d1
    rw [hsame.h0,show (A i).h0 + (H - (A i).h0)=H by omega] at d1 d2
    exact ⟨d1,d2⟩
   ·have hne:H ≠ (A i).h0 + j:=fun e => hc (by rw [e]; exact hcovj)
    show m'.c (F.cell H) % 2=0∧eqP F.n (bkM F m'.c H) (g' H)
    rw [hfar H hne (F.cell H) (inB8_self F H 0 hW),hgout H hc]
    have h9:=h.idle H hH fun j hj e => by
     by_cases hji:j=i
     ·rw [hji]; exact hc
     ·exact hn j hj hji e
    refine ⟨h9.1,(bkM_eq fun x hx => ?_).trans h9.2⟩
    have hWn:F.W=1 + 2 * F.n:=rfl
    exact hfar H hne _ (inB8_iff.2 ⟨by omega,by omega⟩)
  ·have h9:=h.ctr H hH
   show 0≤m'.c (F.cell H)∧m'.c (F.cell H)≤m'.t
   by_cases e:H=(A i).h0 + j
   ·rw [hmt]
    rw [e] at h9 ⊢
    omega
   ·rw [hfar H e (F.cell H) (inB8_self F H 0 hW),hmt]
    omega
  ·have h9:=h.rng H hH y hy
   have hWn:F.W=1 + 2 * F.n:=rfl
   rw [hmc]
   by_cases e:F.cell H + 1 + y=x.1
   ·rw [if_pos e]
    rcases hnx with ⟨e1,_⟩ | ⟨_,_,_,e2⟩
    ·exfalso
     have h7:inB8 F H x.1=true:=inB8_iff.2 ⟨by omega,by omega⟩
     have h8:H=(A i).h0 + j:=inB8_uniq h7 hin
     rw [← h8] at e1
     omega
    ·exact e2
   ·rw [if_neg e]; exact h9
 ·by_cases e:(A i).wt + 1=(A i).od
  ·obtain ⟨p1,p2⟩:=s4.pre (by omega)
   exact .inr ⟨p1,by rw [hmark,if_pos e,hmt],by rw [hg',if_pos e],by rw [hans,s4.ans]; exact came_eq _ _ p2⟩
  ·exact .inl ⟨by rw [hmark,if_neg e],by rw [hg',if_neg e],fun _ => hans⟩
theorem step_went (h:FdbInv F m N A g) {i:Nat} (hi:i < N) (ht:0≤m.t) (ht2:m.t≤4611686018427387904) (hst:(A i).st ≠ 0):Went F m N A g i (stepF F m (A i)):=by
 have h5:=(h.stg i hi).le5
 unfold stepF
 by_cases e1:(A i).st=1
 ·rw [if_pos e1]; exact try_went h hi ht e1
 rw [if_neg e1]
 by_cases e2:(A i).st=2
 ·rw [if_pos e2]; exact tak_went h hi e2
 rw [if_neg e2]
 by_cases e3:(A i).st=3
 ·rw [if_pos e3]; exact loa_went h hi ht ht2 e3
 rw [if_neg e3]
 by_cases e4:(A i).st=4
 ·rw [if_pos e4]; exact sto_went h hi ht e4
 rw [if_neg e4,if_pos (by omega)]
 exact fre_went h hi (by omega)
end
end Go.Proofs.Ythloabdfkakehaa
