/-
  Words and contracts that a statement's proof rests on (FdO, FdQ, FgC, FgE). No statement is proved here.
-/
import Derived.Test.YthloabdfkakehaaGreatFgB
import Derived.Test.YthloabdfkakehaaGreatFeA
import Derived.Test.YthloabdfkakehaaGreatFeC
set_option linter.unusedVariables false
set_option linter.unusedSimpArgs false
namespace Go.Proofs.YthloabdfkakehaaGreat
section
open Go.RowKit
section
variable {w:World} {lo b fb L ab:Nat} {E:Nat→Prop} {F:FcS} {m:MemS} {N:Nat} {A:Nat→FaS} {g:Nat→Nat→Pl} {fv lv wv:Value}
theorem fact_Step (hI:FdbInv F m N A g) {i:Nat} (hi:i < N) (hm:MemR m) (hr:ActR (A i)) (hf:FdbAt w lo b fb F m) (ha:FactIn w L E fb ab F (A i) fv lv wv) (h1:lo + 3≤L) (h2:fb < L) (hLw:L≤w.heap.size) (ht:0≤m.t∧m.t≤4611686018427387900) :
  Calls Tryz.prog 23 #[.pointer (some ⟨ab,0,none⟩)] w (FStep lo b fb L ab E F (stepF F m (A i)).1 (stepF F m (A i)).2 w):=by
 have ok:=hI.ok i hi
 have fits:=hf.fits
 have hSB:=fits.SB
 have hW:=fits.W
 have h4:=ok.hc
 have h5:=ok.hh
 have hl2:=ok.l2
 have hfl:=fits.l
 have hfL:=fits.L
 have hfC:=fits.C
 have hS:=fits.S
 have hall:(A i).hc * F.W≤128 * 17:=Nat.mul_le_mul (by omega) hW.2
 have hcl:F.cell (A i).h0 + (A i).hc * F.W≤m.C:=by
  have h9:=fits.cell (H:=(A i).h0 + ((A i).hc - 1)) (by omega)
  rw [cell_add] at h9
  have h8:((A i).hc - 1) * F.W + F.W=(A i).hc * F.W:=by
   rw [← Nat.succ_mul]; congr 1; omega
  omega
 rcases hI.stg i hi with ⟨e,_⟩ | ⟨e,s⟩ | ⟨e,s⟩ | ⟨e,s⟩ | ⟨e,s,hwt⟩ | ⟨e,s⟩
 ·have e9:stepF F m (A i)=(m,A i):=by unfold stepF; simp [e]
  rw [e9]
  exact step_over hf ha hLw e
 ·have e9:stepF F m (A i)=tryF F m (A i):=by unfold stepF; rw [if_pos e]
  rw [e9]
  have hw1:(A i).hc * F.W=F.W:=by rw [s.hc,Nat.one_mul]
  have hv:=s.vain
  have htr:=fits.tr
  have hlen:=s.len
  by_cases hl:(A i).ld.length < (A i).hc * F.W
  ·exact step_try ha e (fact_tryA hf ha h1 h2 hLw ht hl hcl (by omega))
  ·by_cases hg:m.c (F.cell (A i).h0)=(A i).ld.getD 0 0∧m.c (F.cell (A i).h0) % 2=0
   ·exact step_try ha e (fact_tryB hf ha h1 h2 hLw ht s.hc (by omega) (by omega) hg hr.ld ok.wk)
   ·exact step_try ha e (fact_tryC hf ha h1 h2 hLw ht s.hc (by omega) (by omega) hg (hm _).1 e (by omega))
 ·have e9:stepF F m (A i)=takF m (A i):=by unfold stepF; simp [e]
  rw [e9]
  have hh:=s.held
  exact step_tak ha e ((fact_take hf ha h1 h2 ht ok.who (by omega) e (by omega)).mono fun _ _ h => h.done hLw)
 ·have e9:stepF F m (A i)=loaF F m (A i):=by unfold stepF; simp [e]
  rw [e9]
  exact step_loa ha e (fact_load hf ha h1 h2 hLw ht s.len hcl (by omega) h5 (rd_rng hm hr).ld ok.wk s.ans)
 ·have e9:stepF F m (A i)=stoF m (A i):=by unfold stepF; simp [e]
  rw [e9]
  have hl1:=oddsL_len F (A i).wk (A i).ld (A i).h0 (A i).hc
  have hl2':=wordsL_len F (A i).wk (A i).ld (A i).h0 (A i).hc
  have hl3:=evensL_len F (A i).wk (A i).ld (A i).h0 (A i).hc
  have hwl:(A i).wr.length≤100000:=by
   rw [s.wr,wrL,List.length_append,List.length_append]
   have h9:(A i).hc * (2 * F.n)≤128 * 16:=Nat.mul_le_mul (by omega) (by have:=fits.n; omega)
   omega
  have hx:((A i).wr.getD (A i).wt (0,0)).1 < m.C:=by
   rw [List.getD_eq_getElem?_getD,List.getElem?_eq_getElem hwt]
   have hmem:(A i).wr[(A i).wt] ∈ wrL F (A i).wk (A i).ld (A i).h0 (A i).hc:=by
    rw [← s.wr]; exact List.getElem_mem hwt
   obtain ⟨j,hj,_,hb⟩:=wr_mem _ _ _ _ hmem
   have h9:=fits.cell (H:=(A i).h0 + j) (by omega)
   have h8:=inB8_iff.1 hb
   show ((A i).wr[(A i).wt]).1 < m.C
   omega
  exact step_sto ha e ((fact_store hf ha h1 h2 ht hwt hx hwl (by rw [s.od]; omega) e).mono fun _ _ h => h.done hLw)
 ·have e9:stepF F m (A i)=freF m (A i):=by unfold stepF; simp [e]
  rw [e9]
  have hh:=s.held
  have hle:=s.le
  exact step_fre ha e ((fact_free hf ha h1 h2 ht ok.who hh (by omega)).mono fun _ _ h => h.done hLw)
end
end
section
open Go.RowKit
section
variable {w w':World} {lo b fb L ab:Nat} {E E':Nat→Prop} {F:FcS} {m m':MemS} {N:Nat} {A:Nat→FaS} {g:Nat→Nat→Pl} {fv lv wv:Value}
theorem FactAt.other {a:FaS} (h:FactAt w L E' fb ab F a) (ht:Tch (FdD lo E) w w') (h1:lo + 3≤L) (hd:∀ k,E' k→¬ E k):FactAt w' L E' fb ab F a:=by
 obtain ⟨fv,lv,wv,h⟩:=h
 exact ⟨fv,lv,wv,h.tch ht fun k hk e => by
  rcases e with e | e
  ·have:=(h.low k hk).1; omega
  ·exact hd k hk e⟩
def updE (Es:Nat→Nat→Prop) (i:Nat) (e:Nat→Prop) (j:Nat):Nat→Prop:=if j=i then e else Es j
structure ActsAt (w:World) (lo b fb L:Nat) (F:FcS) (m:MemS) (N:Nat) (A:Nat→FaS) (ab:Nat→Nat) (Es:Nat→Nat→Prop) (g:Nat→Nat→Pl):Prop where
 fd:FdbAt w lo b fb F m
 act:∀ i,i < N→FactAt w L (Es i) fb (ab i) F (A i)
 apart:∀ i j,i < N→j < N→i ≠ j→∀ k,Es i k→¬ Es j k
 inv:FdbInv F m N A g
 rm:MemR m
 ra:∀ i,i < N→ActR (A i)
theorem ActsAt.stepped {ab:Nat→Nat} {Es:Nat→Nat→Prop} {g':Nat→Nat→Pl} {a':FaS} {i:Nat} (h:ActsAt w lo b fb L F m N A ab Es g) (hi:i < N) (h1:lo + 3≤L) (hf:FdbAt w' lo b fb F m') (ha:FactAt w' L (growE (Es i) w w') fb (ab i) F a') (ht:Tch (FdD lo (Es i)) w w') (hinv:FdbInv F m' N (updA A i a') g') (hm:MemR m') (hr:ActR a') :
  ActsAt w' lo b fb L F m' N (updA A i a') ab (updE Es i (growE (Es i) w w')) g' where
 fd:=hf
 act:=fun j hj => by
  unfold updA updE
  by_cases e:j=i
  ·subst e; rw [if_pos rfl,if_pos rfl]; exact ha
  ·rw [if_neg e,if_neg e]
   exact (h.act j hj).other ht h1 fun k hk e9 => h.apart j i hj hi e k hk e9
 apart:=fun j j' hj hj' hne k hk hk' => by
  have hlow:∀ j,j < N→∀ k,Es j k→k < w.heap.size:=fun j hj k hk => by
   obtain ⟨_,_,_,h9⟩:=h.act j hj
   exact (h9.low k hk).2
  unfold updE at hk hk'
  by_cases e:j=i
  ·rw [if_pos e] at hk
   rw [if_neg (by omega)] at hk'
   rcases hk with hk | hk
   ·exact h.apart i j' hi hj' (by omega) k hk hk'
   ·have:=hlow j' hj' k hk'; omega
  ·rw [if_neg e] at hk
   by_cases e':j'=i
   ·rw [if_pos e'] at hk'
    rcases hk' with hk' | hk'
    ·exact h.apart j i hj hi e k hk hk'
    ·have:=hlow j hj k hk; omega
   ·rw [if_neg e'] at hk'
    exact h.apart j j' hj hj' hne k hk hk'
 inv:=hinv
 rm:=hm
 ra:=fun j hj => by
  unfold updA
  by_cases e:j=i
  ·rw [if_pos e]; exact hr
  ·rw [if_neg e]; exact h.ra j hj
def ActsDid (lo b fb L:Nat) (F:FcS) (m:MemS) (N:Nat) (A:Nat→FaS) (ab:Nat→Nat) (Es:Nat→Nat→Prop) (g:Nat→Nat→Pl) (i:Nat) (w:World) (e:Ending) (w':World):Prop :=
 e=.returned (.bool (decide ((stepF F m (A i)).2.st=0)))∧Tch (FdD lo (Es i)) w w'∧(stepF F m (A i)).1.t=m.t + 1∧Same (A i) (stepF F m (A i)).2 ∧
  ∃ g',Eff F (stepF F m (A i)).1 (A i) (stepF F m (A i)).2 g g'∧ActsAt w' lo b fb L F (stepF F m (A i)).1 N (updA A i (stepF F m (A i)).2) ab (updE Es i (growE (Es i) w w')) g'
theorem acts_Step {ab:Nat→Nat} {Es:Nat→Nat→Prop} {i:Nat} (h:ActsAt w lo b fb L F m N A ab Es g) (hi:i < N) (h1:lo + 3≤L) (h2:fb < L) (hLw:L≤w.heap.size) (ht:0≤m.t∧m.t≤4611686018427387900) (hst:(A i).st ≠ 0) :
  Calls Tryz.prog 23 #[.pointer (some ⟨ab i,0,none⟩)] w (ActsDid lo b fb L F m N A ab Es g i w):=by
 obtain ⟨fv,lv,wv,ha⟩:=h.act i hi
 obtain ⟨g',hinv,hs,he,htt⟩:=step_went h.inv hi ht.1 (by omega) hst
 have hrg:=step_rng (F:=F) (h.inv.ok i hi).wk h.rm (h.ra i hi)
 refine (fact_Step h.inv hi h.rm (h.ra i hi) h.fd ha h1 h2 hLw ht).mono fun e w' hh => ?_
 obtain ⟨e1,e2,e3,e4⟩:=hh
 exact ⟨e1,e4,htt,hs,g',he,h.stepped hi h1 e2 e3 e4 hinv hrg.1 hrg.2⟩
theorem acts_Over {ab:Nat→Nat} {Es:Nat→Nat→Prop} {i:Nat} (h:ActsAt w lo b fb L F m N A ab Es g) (hi:i < N) {z:Bool} (hz:decide ((A i).st=0)=z) :
  Calls Tryz.prog 24 #[.pointer (some ⟨ab i,0,none⟩)] w fun e w' => e=.returned (.bool z)∧w=w':=by
 obtain ⟨fv,lv,wv,ha⟩:=h.act i hi
 exact fact_Over ha hz
end
end
section
open Go.RowKit
section
variable {w w':World} {lo b fb L x:Nat} {F:FcS} {m:MemS} {N:Nat} {A:Nat→FaS} {ab:Nat→Nat} {Es:Nat→Nat→Prop} {g:Nat→Nat→Pl}
def newE (w w':World) (k:Nat):Prop:=noE k ∨ (w.heap.size≤k∧k < w'.heap.size)
theorem FactAt.below {E:Nat→Prop} {ab:Nat} {a:FaS} (h:FactAt w L E fb ab F a) (hb:Below w.heap.size w w'):FactAt w' L E fb ab F a:=by
 obtain ⟨fv,lv,wv,h⟩:=h
 exact ⟨fv,lv,wv,h.below hb⟩
theorem ActsAt.below (h:ActsAt w lo b fb L F m N A ab Es g) (hb:Below w.heap.size w w'):ActsAt w' lo b fb L F m N A ab Es g where
 fd:=h.fd.below hb
 act:=fun i hi => (h.act i hi).below hb
 apart:=h.apart
 inv:=h.inv
 rm:=h.rm
 ra:=h.ra
theorem ActsAt.more (h:ActsAt w lo b fb L F m N A ab Es g) (hb:Below w.heap.size w w') {a:FaS} (ha:FactAt w' L (newE w w') fb x F a) (hinv:FdbInv F m (N + 1) (updA A N a) g) (hr:ActR a) :
  ActsAt w' lo b fb L F m (N + 1) (updA A N a) (updN ab N x) (updE Es N (newE w w')) g where
 fd:=h.fd.below hb
 act:=fun j hj => by
  unfold updA updE updN
  by_cases e:j=N
  ·rw [if_pos e,if_pos e,if_pos e]; exact ha
  ·rw [if_neg e,if_neg e,if_neg e]
   exact (h.act j (by omega)).below hb
 apart:=fun j j' hj hj' hne k hk hk' => by
  have hlow:∀ j,j < N→∀ k,Es j k→k < w.heap.size:=fun j hj k hk => by
   obtain ⟨_,_,_,h9⟩:=h.act j hj
   exact (h9.low k hk).2
  unfold updE newE at hk hk'
  by_cases e:j=N
  ·rw [if_pos e] at hk
   rw [if_neg (by omega)] at hk'
   rcases hk with hk | hk
   ·exact hk
   ·have:=hlow j' (by omega) k hk'; omega
  ·rw [if_neg e] at hk
   by_cases e':j'=N
   ·rw [if_pos e'] at hk'
    rcases hk' with hk' | hk'
    ·exact hk'
    ·have:=hlow j (by omega) k hk; omega
   ·rw [if_neg e'] at hk'
    exact h.apart j j' (by omega) (by omega) hne k hk hk'
 inv:=hinv
 rm:=h.rm
 ra:=fun j hj => by
  unfold updA
  by_cases e:j=N
  ·rw [if_pos e]; exact hr
  ·rw [if_neg e]; exact h.ra j (by omega)
theorem ActsAt.none_ {C K:Nat} (hf:FdbAt w lo b fb F ⟨C,K,fun _ => 0,fun _ => -1,0⟩) (A:Nat→FaS) (ab:Nat→Nat) (Es:Nat→Nat→Prop):ActsAt w lo b fb L F ⟨C,K,fun _ => 0,fun _ => -1,0⟩ 0 A ab Es (fun _ _ => pl0) where
 fd:=hf
 act:=fun i hi => absurd hi (by omega)
 apart:=fun i j hi => absurd hi (by omega)
 inv:=FdbInv.start F C K A
 rm:=fun x => ⟨Int.le_refl 0,show (0:Int) < 18446744073709551616 by decide⟩
 ra:=fun i hi => absurd hi (by omega)
theorem begA_rng (F:FcS) (who:Int) (o:OpN):ActR (begA F who o):=by
 obtain ⟨e1,e2,e3,e4,e5,e6,e7,e8,e9,e10⟩:=beg_mark F who o
 exact ⟨fun x hx => (by rw [e5] at hx; cases hx),fun x hx => (by rw [e6] at hx; cases hx)⟩
end
def itF (F:FcS) (x:MemS × FaS):Nat→MemS × FaS
 | 0 => x
 | k + 1 => stepF F (itF F x k).1 (itF F x k).2
def smF:FcS:=⟨0,0,1,1,1,2⟩
def smM:MemS:=⟨16,1,fun _ => 0,fun _ => -1,0⟩
def smO:OpN:=⟨1,1,2,5,0,9,0⟩
def smP:OpN:=⟨0,1,2,0,0,0,0⟩
def smX (k:Nat):MemS × FaS:=itF smF (smM,begA smF 0 smO) k
def smY (k:Nat):MemS × FaS:=itF smF ((smX 9).1,begA smF 1 smP) k
theorem sm_fit:FFit smF 16 1:=⟨by decide,by decide,by decide,by decide,by decide,by decide,by decide,by decide⟩
theorem smX_on:∀ k,k < 9→(smX k).2.st ≠ 0:=by decide +kernel
theorem smX_t:∀ k,k < 10→(smX k).1.t=(k:Int):=by decide +kernel
theorem smX_end:(smX 9).2.st=0∧(smX 9).2.ans=3∧0 < (smX 9).2.mark∧(smX 9).2.mark≤9:=by decide +kernel
theorem smY_on:∀ k,k < 4→(smY k).2.st ≠ 0:=by decide +kernel
theorem smY_t:∀ k,k < 5→(smY k).1.t=9 + (k:Int):=by decide +kernel
theorem smY_end:(smY 4).2.st=0∧(smY 4).2.ans=5∧9 < (smY 4).2.mark:=by decide +kernel
theorem smO_ok:OpOk smF smO:=⟨by decide,by decide +kernel,by decide,fun _ _ => (by decide),fun h => (by cases h),by decide,by decide⟩
theorem smP_ok:OpOk smF smP:=⟨by decide,by decide +kernel,by decide,fun h => absurd h (by decide),fun h => (by cases h),by decide,by decide⟩
end
section
open Go.RowKit
theorem mem_lo {w:World} {T:TypeId} {lo b:Nat} {s:MemS} (h:MemAt w T lo b s):lo + 3≤w.heap.size:=by
 obtain ⟨bc,bl,h⟩:=h
 have:=h.own.lt
 have:=h.cells.lt
 have:=h.locks.lt
 have:=h.b1
 have:=h.b2
 have:=h.c1
 have:=h.c2
 have:=h.l1
 have:=h.l2
 have:=h.n1
 have:=h.n2
 have:=h.n3
 omega
theorem updA_twice (A:Nat→FaS) (i:Nat) (a b:FaS):updA (updA A i a) i b=updA A i b:=by
 funext j
 unfold updA
 split <;> rfl
section
variable {w w':World} {lo b fb L x:Nat} {F:FcS} {m:MemS} {N i:Nat} {A:Nat→FaS} {ab:Nat→Nat} {Es:Nat→Nat→Prop} {g:Nat→Nat→Pl} {a:FaS}
def FarD (lo L k:Nat):Prop:=(lo≤k∧k < lo + 3) ∨ L≤k
def OneAt (w:World) (lo b fb L:Nat) (F:FcS) (m:MemS) (N:Nat) (A:Nat→FaS) (ab:Nat→Nat) (i:Nat) (a:FaS):Prop:=∃ Es g,ActsAt w lo b fb L F m N (updA A i a) ab Es g
theorem OneAt.below (h:OneAt w lo b fb L F m N A ab i a) (hb:Below w.heap.size w w'):OneAt w' lo b fb L F m N A ab i a:=by
 obtain ⟨Es,g,h⟩:=h
 exact ⟨Es,g,h.below hb⟩
theorem one_Step (h:OneAt w lo b fb L F m N A ab i a) (hi:i < N) (h1:lo + 3≤L) (h2:fb < L) (hLw:L≤w.heap.size) (ht:0≤m.t∧m.t≤4611686018427387900) (hst:a.st ≠ 0) :
  Calls Tryz.prog 23 #[.pointer (some ⟨ab i,0,none⟩)] w fun e w' => e=.returned (.bool (decide ((stepF F m a).2.st=0)))∧Tch (FarD lo L) w w'∧OneAt w' lo b fb L F (stepF F m a).1 N A ab i (stepF F m a).2:=by
 obtain ⟨Es,g,h⟩:=h
 have e9:updA A i a i=a:=updA_same A i a
 have hh:=acts_Step h hi h1 h2 hLw ht (by rw [e9]; exact hst)
 obtain ⟨fv,lv,wv,hact⟩:=h.act i hi
 refine hh.mono fun e w' hd => ?_
 obtain ⟨d1,d2,d3,d4,g',d5,d6⟩:=hd
 rw [e9] at d1 d6
 rw [updA_twice] at d6
 refine ⟨d1,d2.mono fun k _ hk => ?_,_,g',d6⟩
 rcases hk with hk | hk
 ·exact .inl hk
 ·exact .inr (hact.low k hk).1
theorem acts_Mark (h:ActsAt w lo b fb L F m N A ab Es g) (hi:i < N) :
  Calls Tryz.prog 30 #[.pointer (some ⟨ab i,0,none⟩)] w fun e w' => e=.returned (.int .i64 (A i).mark)∧w=w':=by
 obtain ⟨fv,lv,wv,ha⟩:=h.act i hi
 exact fact_Mark ha
theorem acts_Answer (h:ActsAt w lo b fb L F m N A ab Es g) (hi:i < N) :
  Calls Tryz.prog 25 #[.pointer (some ⟨ab i,0,none⟩)] w fun e w' => e=.returned (.int .i64 (if (A i).st=0 then (A i).ans else 0))∧w=w':=by
 obtain ⟨fv,lv,wv,ha⟩:=h.act i hi
 exact fact_Answer ha
theorem acts_Tries (h:ActsAt w lo b fb L F m N A ab Es g) (hi:i < N) :
  Calls Tryz.prog 17 #[.pointer (some ⟨ab i,0,none⟩)] w fun e w' => e=.returned (.int .i64 ((A i).vain:Nat))∧w=w':=by
 obtain ⟨fv,lv,wv,ha⟩:=h.act i hi
 exact fact_Tries ha
end
end
end Go.Proofs.YthloabdfkakehaaGreat
