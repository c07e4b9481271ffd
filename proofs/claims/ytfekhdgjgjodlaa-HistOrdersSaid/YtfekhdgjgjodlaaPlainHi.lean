/-
  Words and contracts that a statement's proof rests on (PlainHi, PlainHj, SrE). No statement is proved here.
-/
import Derived.Deep.DeepCutAuto
import Derived.Test.YtfekhdgjgjodlaaMoM
import Derived.Test.YtfekhdgjgjodlaaPlainSu
import Derived.Test.YtfekhdgjgjodlaaSrD
set_option linter.unusedVariables false
set_option linter.unusedSimpArgs false
namespace Go.Proofs.Ytfekhdgjgjodlaa
section
structure Ent where
 who:Int
 beg:Int
 mar:Int
 fin:Int
 op:Od
 ans:Int
def OrdL (N:Nat) (key:Nat→Int) (o:List Nat):Prop:=o.Pairwise (fun a b => key a < key b ∨ (key a=key b∧a < b))∧∀ i,i ∈ o ↔ i < N∧0 < key i
theorem pw_uniq {R:Nat→Nat→Prop} (hi:∀ a,¬ R a a) (ha:∀ a b,R a b→¬ R b a):∀ (o o':List Nat),o.Pairwise R→o'.Pairwise R→(∀ i,i ∈ o ↔ i ∈ o')→o=o'
 | [],[],_,_,_ => rfl
 | [],b :: o',_,_,h => absurd ((h b).2 (List.mem_cons_self ..)) (by simp)
 | a :: o,[],_,_,h => absurd ((h a).1 (List.mem_cons_self ..)) (by simp)
 | a :: o,b :: o',p,p',h => by
  rw [List.pairwise_cons] at p p'
  have e:a=b:=Decidable.byContradiction fun hne => by
   have h1:a ∈ o':=by
    have:=(h a).1 (List.mem_cons_self ..)
    rcases List.mem_cons.1 this with e | e
    ·exact absurd e hne
    ·exact e
   have h2:b ∈ o:=by
    have:=(h b).2 (List.mem_cons_self ..)
    rcases List.mem_cons.1 this with e | e
    ·exact absurd e.symm hne
    ·exact e
   exact ha _ _ (p.1 b h2) (p'.1 a h1)
  subst e
  congr 1
  refine pw_uniq hi ha o o' p.2 p'.2 fun i => ⟨fun hm => ?_,fun hm => ?_⟩
  ·rcases List.mem_cons.1 ((h i).1 (List.mem_cons_of_mem _ hm)) with e | e
   ·subst e; exact absurd (p.1 i hm) (hi i)
   ·exact e
  ·rcases List.mem_cons.1 ((h i).2 (List.mem_cons_of_mem _ hm)) with e | e
   ·subst e; exact absurd (p'.1 i hm) (hi i)
   ·exact e
theorem OrdL.uniq {N:Nat} {key:Nat→Int} {o o':List Nat} (h:OrdL N key o) (h':OrdL N key o'):o=o' :=
 pw_uniq (fun a h => by omega) (fun a b h k => by omega) o o' h.1 h'.1 fun i => (h.2 i).trans (h'.2 i).symm
theorem sub_back:∀ (a b:List Nat),a.Nodup→(∀ x ∈ a,x ∈ b)→b.length≤a.length→∀ x ∈ b,x ∈ a
 | [],b,_,_,hl,x,hx => by
  have:b=[]:=List.eq_nil_of_length_eq_zero (by simpa using hl)
  rw [this] at hx
  exact hx
 | y :: a,b,hn,hs,hl,x,hx => by
  rw [List.nodup_cons] at hn
  have hy:y ∈ b:=hs y (List.mem_cons_self ..)
  by_cases e:x=y
  ·subst e; exact List.mem_cons_self ..
  ·refine List.mem_cons_of_mem _ (sub_back a (b.erase y) hn.2 (fun z hz => ?_) ?_ x ((List.mem_erase_of_ne e).2 hx))
   ·have hzy:z ≠ y:=fun h => hn.1 (h ▸ hz)
    exact (List.mem_erase_of_ne hzy).2 (hs z (List.mem_cons_of_mem _ hz))
   ·rw [List.length_erase_of_mem hy]
    simp at hl
    omega
def pls (key:Nat→Int) (N:Nat):List Nat:=(List.range N).filter fun i => decide (0 < key i)
theorem pls_succ (key:Nat→Int) (N:Nat):pls key (N + 1)=pls key N ++ (if 0 < key N then [N] else []):=by
 unfold pls
 rw [List.range_succ,List.filter_append]
 congr 1
 by_cases h:0 < key N
 ·simp [h]
 ·simp [h]
theorem pls_le (key:Nat→Int) (N:Nat):(pls key N).length≤N:=by
 have:=List.length_filter_le (fun i => decide (0 < key i)) (List.range N)
 unfold pls
 simpa using this
theorem pls_mem {key:Nat→Int} {N i:Nat}:i ∈ pls key N ↔ i < N∧0 < key i:=by
 unfold pls
 simp
theorem pls_pw (key:Nat→Int) (N:Nat):(pls key N).Pairwise (· < ·):=List.Pairwise.filter _ List.pairwise_lt_range
def getN (l:List Nat) (i:Nat):Nat:=l.getD i 0
theorem getN_at {l:List Nat} {i:Nat} (h:i < l.length):l[i]?=some (getN l i):=by
 unfold getN
 rw [List.getD_eq_getElem?_getD,List.getElem?_eq_getElem h]
 rfl
theorem getN_mem {l:List Nat} {i:Nat} (h:i < l.length):getN l i ∈ l:=List.mem_of_getElem? (getN_at h)
theorem getN_map {n:Nat} (f:Nat→Nat) {i:Nat} (h:i < n):getN ((List.range n).map f) i=f i:=by
 unfold getN
 rw [List.getD_eq_getElem?_getD,List.getElem?_map,List.getElem?_range h]
 rfl
theorem pls_st (key:Nat→Int) (N:Nat):StK key (getN (pls key N)) 0 (pls key N).length:=fun p q _ h2 h3 _ => by
 have hp:=pls_pw key N
 have e1:=getN_at (l:=pls key N) (i:=p) (by omega)
 have e2:=getN_at (l:=pls key N) (i:=q) h3
 rw [List.getElem?_eq_getElem (by omega)] at e1 e2
 injection e1 with e1
 injection e2 with e2
 rw [← e1,← e2]
 exact List.pairwise_iff_getElem.1 hp p q (by omega) h3 h2
theorem OrdL.of_sorted {key:Nat→Int} {N:Nat} {f:Nat→Nat} (h:MgK key (getN (pls key N)) f 0 (pls key N).length):OrdL N key ((List.range (pls key N).length).map f):=by
 have hst:=h.whole (pls_st key N) (Nat.le_refl _) (Nat.le_refl _)
 have hpw:((List.range (pls key N).length).map f).Pairwise (fun a b => key a < key b ∨ (key a=key b∧a < b)):=by
  rw [List.pairwise_iff_getElem]
  intro i j hi hj hij
  simp only [List.length_map,List.length_range] at hi hj
  simp only [List.getElem_map,List.getElem_range]
  have h1:=h.sd i j (Nat.zero_le _) hij hj
  by_cases e:key (f i)=key (f j)
  ·exact .inr ⟨e,hst i j (Nat.zero_le _) hij hj e⟩
  ·exact .inl (by omega)
 have hsub:∀ x ∈ (List.range (pls key N).length).map f,x ∈ pls key N:=fun x hx => by
  rw [List.mem_map] at hx
  obtain ⟨p,hp,rfl⟩:=hx
  rw [List.mem_range] at hp
  obtain ⟨q,_,q2,e⟩:=h.im.2 p (Nat.zero_le _) hp
  rw [e]
  exact getN_mem q2
 refine ⟨hpw,fun i => ⟨fun hm => pls_mem.1 (hsub i hm),fun hm => ?_⟩⟩
 exact sub_back _ _ (hpw.imp fun {a b} h e => by subst e; omega) hsub (by simp) i (pls_mem.2 hm)
theorem OrdL.len {key:Nat→Int} {N:Nat} {o:List Nat} (h:OrdL N key o):o.length≤N:=by
 have hn:o.Nodup:=h.1.imp fun {a b} h e => by subst e; omega
 refine Nat.le_trans ?_ (pls_le key N)
 have:∀ (a b:List Nat),a.Nodup→(∀ x ∈ a,x ∈ b)→a.length≤b.length:=by
  intro a
  induction a with
  | nil => simp
  | cons y a ih =>
   intro b hn hs
   rw [List.nodup_cons] at hn
   have hy:y ∈ b:=hs y (List.mem_cons_self ..)
   have:=ih (b.erase y) hn.2 fun z hz => (List.mem_erase_of_ne (fun h:z=y => hn.1 (by rw [← h]; exact hz))).2 (hs z (List.mem_cons_of_mem _ hz))
   rw [List.length_erase_of_mem hy] at this
   have:0 < b.length:=List.length_pos_of_mem hy
   simp
   omega
 exact this _ _ hn fun x hx => pls_mem.2 ((h.2 x).1 hx)
def rpl (P r S B n nv:Nat) (L:Nat→Ent):List Nat→Ms→Int→Ms × Int
 | [],s,b => (s,b)
 | i :: o,s,b => rpl P r S B n nv L o (doS P r S B n nv s (L i).op) (if b=-1∧(L i).fin ≠ 0∧(L i).ans ≠ doA P r S B n nv s (L i).op then (i:Int) else b)
def misT (x:Ent):Bool:=(decide (x.beg < 0) || decide (x.mar < 0) || decide (x.fin < 0)) || ((decide (0 < x.mar) && decide (x.mar≤x.beg)) || (decide (x.fin ≠ 0) && (decide (x.mar=0) || decide (x.fin < x.mar))))
def busP (L:Nat→Ent) (i k:Nat):Prop:=(0 < (L i).mar∧(L i).mar=(L k).mar) ∨ ((L i).who=(L k).who∧((L k).fin=0 ∨ (L i).beg < (L k).fin))
instance (L:Nat→Ent) (i k:Nat):Decidable (busP L i k):=by unfold busP; infer_instance
def busB (L:Nat→Ent) (i:Nat):Bool:=(List.range i).any fun k => decide (busP L i k)
theorem busB_true {L:Nat→Ent} {i:Nat}:busB L i=true ↔ ∃ k,k < i∧busP L i k:=by
 unfold busB
 simp
theorem busB_false {L:Nat→Ent} {i:Nat}:busB L i=false ↔ ∀ k,k < i→¬ busP L i k:=by
 unfold busB
 simp
def chkH (P r S B n nv:Nat) (L:Nat→Ent) (N:Nat) (o:List Nat) (s:Ms):Int × Int :=
 if firstJ (fun i => misT (L i)) N ≠ -1 then (firstJ (fun i => misT (L i)) N,4)
 else if firstJ (busB L) N ≠ -1 then (firstJ (busB L) N,10)
 else if (rpl P r S B n nv L o s (-1)).2 ≠ -1 then ((rpl P r S B n nv L o s (-1)).2,7)
 else (-1,0)
end
section
def mkT (L:Nat→Ent):Nat→Int→Bool
 | 0,_ => false
 | k + 1,x => if 0 < (L k).mar∧(L k).mar=x then true else mkT L k x
def laT (L:Nat→Ent):Nat→Int→Option Nat
 | 0,_ => none
 | k + 1,x => if (L k).who=x then some k else laT L k x
theorem mkT_iff (L:Nat→Ent) (x:Int):∀ k,mkT L k x=true ↔ ∃ j,j < k∧0 < (L j).mar∧(L j).mar=x
 | 0 => by simp [mkT]
 | k + 1 => by
  unfold mkT
  by_cases h:0 < (L k).mar∧(L k).mar=x
  ·rw [if_pos h]
   exact ⟨fun _ => ⟨k,by omega,h⟩,fun _ => rfl⟩
  ·rw [if_neg h,mkT_iff L x k]
   exact ⟨fun ⟨j,hj,hh⟩ => ⟨j,by omega,hh⟩,fun ⟨j,hj,hh⟩ => ⟨j,by
    rcases Nat.lt_or_ge j k with c | c
    ·exact c
    ·have:j=k:=by omega
     subst this
     exact absurd hh h,hh⟩⟩
theorem laT_some (L:Nat→Ent) (x:Int):∀ k j,laT L k x=some j→j < k∧(L j).who=x∧∀ i,j < i→i < k→(L i).who ≠ x
 | 0,j,h => by simp [laT] at h
 | k + 1,j,h => by
  unfold laT at h
  by_cases e:(L k).who=x
  ·rw [if_pos e] at h
   injection h with h
   subst h
   exact ⟨by omega,e,fun i h1 h2 => by omega⟩
  ·rw [if_neg e] at h
   obtain ⟨h1,h2,h3⟩:=laT_some L x k j h
   exact ⟨by omega,h2,fun i i1 i2 => by
    rcases Nat.lt_or_ge i k with c | c
    ·exact h3 i i1 c
    ·have:i=k:=by omega
     subst this
     exact e⟩
theorem laT_none (L:Nat→Ent) (x:Int):∀ k,laT L k x=none→∀ i,i < k→(L i).who ≠ x
 | 0,_,i,hi => by omega
 | k + 1,h,i,hi => by
  unfold laT at h
  by_cases e:(L k).who=x
  ·rw [if_pos e] at h
   cases h
  ·rw [if_neg e] at h
   rcases Nat.lt_or_ge i k with c | c
   ·exact laT_none L x k h i c
   ·have:i=k:=by omega
    subst this
    exact e
def atB (x:Ent) (t:Int):Bool:=!(x.fin != 0) || decide (t < x.fin)
theorem atB_true {x:Ent} {t:Int}:atB x t=true ↔ x.fin=0 ∨ t < x.fin:=by
 unfold atB
 simp
theorem misT_false {x:Ent} (h:misT x=false):0≤x.beg∧0≤x.mar∧0≤x.fin∧(0 < x.mar→x.beg < x.mar)∧(x.fin ≠ 0→x.mar ≠ 0∧x.mar≤x.fin):=by
 unfold misT at h
 simp only [Bool.or_eq_false_iff,Bool.and_eq_false_iff,decide_eq_false_iff_not] at h
 obtain ⟨⟨⟨h1,h2⟩,h3⟩,h4,h5⟩:=h
 refine ⟨by omega,by omega,by omega,fun hm => by omega,fun hf => ?_⟩
 rcases h5 with h5 | h5
 ·exact absurd hf h5
 ·omega
def busQ (L:Nat→Ent) (i:Nat):Bool:=mkT L i (L i).mar || (match laT L i (L i).who with
 | none => false
 | some j => atB (L j) (L i).beg)
theorem busQ_eq {L:Nat→Ent} {N i:Nat} (hm:∀ j,j < N→misT (L j)=false) (hi:i < N) (hb:∀ j,j < i→busB L j=false):busQ L i=busB L i:=by
 have key:busQ L i=true ↔ busB L i=true:=by
  rw [busB_true]
  unfold busQ
  rw [Bool.or_eq_true,mkT_iff]
  constructor
  ·rintro (⟨j,hj,h1,h2⟩ | h)
   ·exact ⟨j,hj,.inl ⟨by omega,h2.symm⟩⟩
   ·cases e:laT L i (L i).who with
    | none => rw [e] at h; cases h
    | some j =>
     rw [e] at h
     obtain ⟨h1,h2,_⟩:=laT_some L _ i j e
     exact ⟨j,h1,.inr ⟨h2.symm,atB_true.1 h⟩⟩
  ·rintro ⟨k,hk,h | ⟨h1,h2⟩⟩
   ·exact .inl ⟨k,hk,by omega,h.2.symm⟩
   ·right
    cases e:laT L i (L i).who with
    | none => exact absurd h1.symm (laT_none L _ i e k hk)
    | some j =>
     obtain ⟨j1,j2,j3⟩:=laT_some L _ i j e
     show atB (L j) (L i).beg=true
     rw [atB_true]
     rcases Nat.lt_trichotomy k j with c | c | c
     ·have hbj:=busB_false.1 (hb j j1) k c
      have hmj:=misT_false (hm j (by omega))
      have hne:¬ ((L k).fin=0 ∨ (L j).beg < (L k).fin):=fun hh => hbj (.inr ⟨by rw [j2,h1],hh⟩)
      by_cases hf:(L j).fin=0
      ·exact .inl hf
      ·right
       have:=hmj.2.2.2.2 hf
       have:=hmj.2.2.2.1 (by omega)
       omega
     ·subst c; exact h2
     ·exact absurd h1.symm (j3 k c hk)
 cases h1:busQ L i <;> cases h2:busB L i <;> simp_all
theorem firstJ_step {f:Nat→Bool} {k:Nat} (h:∀ i,i < k→f i=false) (hk:f k=false):∀ i,i < k + 1→f i=false:=fun i hi => by
 rcases Nat.lt_or_ge i k with c | c
 ·exact h i c
 ·have:i=k:=by omega
  subst this
  exact hk
end
section
open Go.RowKit
section
variable {pb n cp lb N:Nat} {key:Nat→Int}
theorem sym_rest (hn:n≤1000000) {d:Nat} {w wr:World} {f:Nat→Nat} {a m b s e mid:Nat}
  (IH:∀ (w:World) (f:Nat→Nat) (a m b:Nat),SrAt w pb n lb N key f→b - a≤d→a < m→m < b→b≤n→SdK key f a m→SdK key f m b→StK key f a b →
   Calls Try.prog 31 #[.slice (some ⟨pb,0,none⟩) n cp,.int .i64 (a:Nat),.int .i64 (m:Nat),.int .i64 (b:Nat),(.func (.func 9) #[] #[.pointer (some ⟨lb,0,none⟩)])] w (MgAt w pb n lb N key f a b))
  (hd:b - a≤d + 1) (ham:a < m) (hmb:m < b) (hb:b≤n) (h:SrAt wr pb n lb N key f) (hbut:But pb w wr) (hl:SdK key f a m) (hr:SdK key f m b) (ht:StK key f a b)
  (hc:CutK key f a m b s e) (hmid:a < mid∧mid < b) (hem:s + (e - m)=mid) :
  ∃ P1 P2 P3:World→Prop,
   (s < m→m < e→Calls Try.prog 42 #[.slice (some ⟨pb,0,none⟩) n cp,.int .i64 (s:Nat),.int .i64 (m:Nat),.int .i64 (e:Nat),(.func (.func 9) #[] #[.pointer (some ⟨lb,0,none⟩)])] wr fun z w1 => z=.returned (.tuple #[])∧P1 w1) ∧
   (¬ (s < m∧m < e)→P1 wr) ∧
   (∀ w1,P1 w1→a < s→s < mid→Calls Try.prog 31 #[.slice (some ⟨pb,0,none⟩) n cp,.int .i64 (a:Nat),.int .i64 (s:Nat),.int .i64 (mid:Nat),(.func (.func 9) #[] #[.pointer (some ⟨lb,0,none⟩)])] w1 fun z w2 => z=.returned (.tuple #[])∧P2 w2) ∧
   (∀ w1,P1 w1→¬ (a < s∧s < mid)→P2 w1) ∧
   (∀ w2,P2 w2→mid < e→e < b→Calls Try.prog 31 #[.slice (some ⟨pb,0,none⟩) n cp,.int .i64 (mid:Nat),.int .i64 (e:Nat),.int .i64 (b:Nat),(.func (.func 9) #[] #[.pointer (some ⟨lb,0,none⟩)])] w2 fun z w3 => z=.returned (.tuple #[])∧P3 w3) ∧
   (∀ w2,P2 w2→¬ (mid < e∧e < b)→P3 w2) ∧
   (∀ w3,P3 w3→MgAt w pb n lb N key f a b (.returned (.tuple #[])) w3):=by
 obtain ⟨g,hg⟩:∃ g,g=roK f s m e:=⟨_,rfl⟩
 obtain ⟨p1,p2,p3,p4,p5⟩:=sym_pre hc hl hr ht hg hem
 have x1:=hc.s1
 have x2:=hc.sm
 have x3:=hc.me
 have x4:=hc.eb
 refine ⟨fun w1 => SrAt w1 pb n lb N key g∧But pb w w1,fun w2 => ∃ g1,MgK key g g1 a mid∧SrAt w2 pb n lb N key g1∧But pb w w2,fun w3 => ∃ g2,MgK key f g2 a b∧SrAt w3 pb n lb N key g2∧But pb w w3,?_,?_,?_,?_,?_,?_,?_⟩
 ·intro c1 c2
  refine Calls.mono (rotate_row h hn m c1 c2 (by omega)) ?_
  rintro z w1 ⟨rfl,k1,k2⟩
  exact ⟨rfl,hg ▸ k1,hbut.trans k2⟩
 ·intro c
  have e1:g=f:=hg.trans (roK_id (by omega) x2 x3)
  exact ⟨e1 ▸ h,hbut⟩
 ·rintro w1 ⟨k1,k2⟩ c1 c2
  refine Calls.mono (IH w1 g a s mid k1 (by omega) c1 c2 (by omega) p1 p2 (p5.mono (Nat.le_refl _) (by omega))) ?_
  rintro z w2 ⟨rfl,g1,j1,j2,j3⟩
  exact ⟨rfl,g1,j1,j2,k2.trans j3⟩
 ·rintro w1 ⟨k1,k2⟩ c
  refine ⟨g,MgK.same ?_ (p5.mono (Nat.le_refl _) (by omega)),k1,k2⟩
  by_cases c1:a < s
  ·rw [show mid=s by omega]
   exact p1
  ·rw [show a=s by omega]
   exact p2
 ·rintro w2 ⟨g1,j1,k1,k2⟩ c1 c2
  have y1:SdK key g1 mid e:=j1.beside p3 (.inr (Nat.le_refl _))
  have y2:SdK key g1 e b:=j1.beside p4 (.inr (by omega))
  have y3:StK key g1 a b:=j1.whole p5 (Nat.le_refl _) (by omega)
  refine Calls.mono (IH w2 g1 mid e b k1 (by omega) c1 c2 hb y1 y2 (y3.mono (by omega) (Nat.le_refl _))) ?_
  rintro z w3 ⟨rfl,g2,i1,i2,i3⟩
  exact ⟨rfl,g2,sym_fin hc hl hr ht hg hem j1 i1,i2,k2.trans i3⟩
 ·rintro w2 ⟨g1,j1,k1,k2⟩ c
  have y1:SdK key g1 mid e:=j1.beside p3 (.inr (Nat.le_refl _))
  have y2:SdK key g1 e b:=j1.beside p4 (.inr (by omega))
  have y3:StK key g1 a b:=j1.whole p5 (Nat.le_refl _) (by omega)
  refine ⟨g1,sym_fin hc hl hr ht hg hem j1 (MgK.same ?_ (y3.mono (by omega) (Nat.le_refl _))),k1,k2⟩
  by_cases c1:mid < e
  ·rw [show b=e by omega]
   exact y1
  ·rw [show mid=e by omega]
   exact y2
 ·rintro w3 ⟨g2,j1,j2,j3⟩
  exact ⟨rfl,g2,j1,j2,j3⟩
end
end
end Go.Proofs.Ytfekhdgjgjodlaa
