/-
  Words and contracts that a statement's proof rests on (PlainHi, PlainHj, HiM). No statement is proved here.
-/
import Derived.Maps.OwnSet
import Derived.Maps.OwnOps
import Derived.WalkArith
import Derived.Test.YtfekhdgjgjodlaaGreatMoM
import Derived.Test.YtfekhdgjgjodlaaGreatSrA
set_option linter.unusedVariables false
set_option linter.unusedSimpArgs false
namespace Go.Proofs.YtfekhdgjgjodlaaGreat
section
structure Ent where
 who:Int
 beg:Int
 mar:Int
 fin:Int
 op:Od
 ans:Int
def OrdL (N:Nat) (key:Nat→Int) (o:List Nat):Prop:=o.Pairwise (fun a b => key a < key b ∨ (key a=key b∧a < b))∧∀ i,i ∈ o ↔ i < N∧0 < key i
theorem pw_uniq {R:Nat→Nat→Prop} (hi:∀ a,¬ R a a) (ha:∀ a b,R a b→¬ R b a):∀ (o o':List Nat),o.Pairwise R→o'.Pairwise R→(∀ i,i ∈ o ↔ i ∈ o')→o=o'
 | [],[],_,_,_ => rfl
 | [],b :: o',_,_,h => absurd ((h b).2 (List.mem_cons_self ..)) (by simp)
 | a :: o,[],_,_,h => absurd ((h a).1 (List.mem_cons_self ..)) (by simp)
 | a :: o,b :: o',p,p',h => by
  rw [List.pairwise_cons] at p p'
  have e:a=b:=Decidable.byContradiction fun hne => by
   have h1:a ∈ o':=by
    have:=(h a).1 (List.mem_cons_self ..)
    rcases List.mem_cons.1 this with e | e
    ·exact absurd e hne
    ·exact e
   have h2:b ∈ o:=by
    have:=(h b).2 (List.mem_cons_self ..)
    rcases List.mem_cons.1 this with e | e
    ·exact absurd e.symm hne
    ·exact e
   exact ha _ _ (p.1 b h2) (p'.1 a h1)
  subst e
  congr 1
  refine pw_uniq hi ha o o' p.2 p'.2 fun i => ⟨fun hm => ?_,fun hm => ?_⟩
  ·rcases List.mem_cons.1 ((h i).1 (List.mem_cons_of_mem _ hm)) with e | e
   ·subst e; exact absurd (p.1 i hm) (hi i)
   ·exact e
  ·rcases List.mem_cons.1 ((h i).2 (List.mem_cons_of_mem _ hm)) with e | e
   ·subst e; exact absurd (p'.1 i hm) (hi i)
   ·exact e
theorem OrdL.uniq {N:Nat} {key:Nat→Int} {o o':List Nat} (h:OrdL N key o) (h':OrdL N key o'):o=o' :=
 pw_uniq (fun a h => by omega) (fun a b h k => by omega) o o' h.1 h'.1 fun i => (h.2 i).trans (h'.2 i).symm
theorem sub_back:∀ (a b:List Nat),a.Nodup→(∀ x ∈ a,x ∈ b)→b.length≤a.length→∀ x ∈ b,x ∈ a
 | [],b,_,_,hl,x,hx => by
  have:b=[]:=List.eq_nil_of_length_eq_zero (by simpa using hl)
  rw [this] at hx
  exact hx
 | y :: a,b,hn,hs,hl,x,hx => by
  rw [List.nodup_cons] at hn
  have hy:y ∈ b:=hs y (List.mem_cons_self ..)
  by_cases e:x=y
  ·subst e; exact List.mem_cons_self ..
  ·refine List.mem_cons_of_mem _ (sub_back a (b.erase y) hn.2 (fun z hz => ?_) ?_ x ((List.mem_erase_of_ne e).2 hx))
   ·have hzy:z ≠ y:=fun h => hn.1 (h ▸ hz)
    exact (List.mem_erase_of_ne hzy).2 (hs z (List.mem_cons_of_mem _ hz))
   ·rw [List.length_erase_of_mem hy]
    simp at hl
    omega
def pls (key:Nat→Int) (N:Nat):List Nat:=(List.range N).filter fun i => decide (0 < key i)
theorem pls_succ (key:Nat→Int) (N:Nat):pls key (N + 1)=pls key N ++ (if 0 < key N then [N] else []):=by
 unfold pls
 rw [List.range_succ,List.filter_append]
 congr 1
 by_cases h:0 < key N
 ·simp [h]
 ·simp [h]
theorem pls_le (key:Nat→Int) (N:Nat):(pls key N).length≤N:=by
 have:=List.length_filter_le (fun i => decide (0 < key i)) (List.range N)
 unfold pls
 simpa using this
theorem pls_mem {key:Nat→Int} {N i:Nat}:i ∈ pls key N ↔ i < N∧0 < key i:=by
 unfold pls
 simp
theorem pls_pw (key:Nat→Int) (N:Nat):(pls key N).Pairwise (· < ·):=List.Pairwise.filter _ List.pairwise_lt_range
def getN (l:List Nat) (i:Nat):Nat:=l.getD i 0
theorem getN_at {l:List Nat} {i:Nat} (h:i < l.length):l[i]?=some (getN l i):=by
 unfold getN
 rw [List.getD_eq_getElem?_getD,List.getElem?_eq_getElem h]
 rfl
theorem getN_mem {l:List Nat} {i:Nat} (h:i < l.length):getN l i ∈ l:=List.mem_of_getElem? (getN_at h)
theorem getN_map {n:Nat} (f:Nat→Nat) {i:Nat} (h:i < n):getN ((List.range n).map f) i=f i:=by
 unfold getN
 rw [List.getD_eq_getElem?_getD,List.getElem?_map,List.getElem?_range h]
 rfl
theorem pls_st (key:Nat→Int) (N:Nat):StK key (getN (pls key N)) 0 (pls key N).length:=fun p q _ h2 h3 _ => by
 have hp:=pls_pw key N
 have e1:=getN_at (l:=pls key N) (i:=p) (by omega)
 have e2:=getN_at (l:=pls key N) (i:=q) h3
 rw [List.getElem?_eq_getElem (by omega)] at e1 e2
 injection e1 with e1
 injection e2 with e2
 rw [← e1,← e2]
 exact List.pairwise_iff_getElem.1 hp p q (by omega) h3 h2
theorem OrdL.of_sorted {key:Nat→Int} {N:Nat} {f:Nat→Nat} (h:MgK key (getN (pls key N)) f 0 (pls key N).length):OrdL N key ((List.range (pls key N).length).map f):=by
 have hst:=h.whole (pls_st key N) (Nat.le_refl _) (Nat.le_refl _)
 have hpw:((List.range (pls key N).length).map f).Pairwise (fun a b => key a < key b ∨ (key a=key b∧a < b)):=by
  rw [List.pairwise_iff_getElem]
  intro i j hi hj hij
  simp only [List.length_map,List.length_range] at hi hj
  simp only [List.getElem_map,List.getElem_range]
  have h1:=h.sd i j (Nat.zero_le _) hij hj
  by_cases e:key (f i)=key (f j)
  ·exact .inr ⟨e,hst i j (Nat.zero_le _) hij hj e⟩
  ·exact .inl (by omega)
 have hsub:∀ x ∈ (List.range (pls key N).length).map f,x ∈ pls key N:=fun x hx => by
  rw [List.mem_map] at hx
  obtain ⟨p,hp,rfl⟩:=hx
  rw [List.mem_range] at hp
  obtain ⟨q,_,q2,e⟩:=h.im.2 p (Nat.zero_le _) hp
  rw [e]
  exact getN_mem q2
 refine ⟨hpw,fun i => ⟨fun hm => pls_mem.1 (hsub i hm),fun hm => ?_⟩⟩
 exact sub_back _ _ (hpw.imp fun {a b} h e => by subst e; omega) hsub (by simp) i (pls_mem.2 hm)
theorem OrdL.len {key:Nat→Int} {N:Nat} {o:List Nat} (h:OrdL N key o):o.length≤N:=by
 have hn:o.Nodup:=h.1.imp fun {a b} h e => by subst e; omega
 refine Nat.le_trans ?_ (pls_le key N)
 have:∀ (a b:List Nat),a.Nodup→(∀ x ∈ a,x ∈ b)→a.length≤b.length:=by
  intro a
  induction a with
  | nil => simp
  | cons y a ih =>
   intro b hn hs
   rw [List.nodup_cons] at hn
   have hy:y ∈ b:=hs y (List.mem_cons_self ..)
   have:=ih (b.erase y) hn.2 fun z hz => (List.mem_erase_of_ne (fun h:z=y => hn.1 (by rw [← h]; exact hz))).2 (hs z (List.mem_cons_of_mem _ hz))
   rw [List.length_erase_of_mem hy] at this
   have:0 < b.length:=List.length_pos_of_mem hy
   simp
   omega
 exact this _ _ hn fun x hx => pls_mem.2 ((h.2 x).1 hx)
def rpl (P r S B n nv:Nat) (L:Nat→Ent):List Nat→Ms→Int→Ms × Int
 | [],s,b => (s,b)
 | i :: o,s,b => rpl P r S B n nv L o (doS P r S B n nv s (L i).op) (if b=-1∧(L i).fin ≠ 0∧(L i).ans ≠ doA P r S B n nv s (L i).op then (i:Int) else b)
def misT (x:Ent):Bool:=(decide (x.beg < 0) || decide (x.mar < 0) || decide (x.fin < 0)) || ((decide (0 < x.mar) && decide (x.mar≤x.beg)) || (decide (x.fin ≠ 0) && (decide (x.mar=0) || decide (x.fin < x.mar))))
def busP (L:Nat→Ent) (i k:Nat):Prop:=(0 < (L i).mar∧(L i).mar=(L k).mar) ∨ ((L i).who=(L k).who∧((L k).fin=0 ∨ (L i).beg < (L k).fin))
instance (L:Nat→Ent) (i k:Nat):Decidable (busP L i k):=by unfold busP; infer_instance
def busB (L:Nat→Ent) (i:Nat):Bool:=(List.range i).any fun k => decide (busP L i k)
theorem busB_true {L:Nat→Ent} {i:Nat}:busB L i=true ↔ ∃ k,k < i∧busP L i k:=by
 unfold busB
 simp
theorem busB_false {L:Nat→Ent} {i:Nat}:busB L i=false ↔ ∀ k,k < i→¬ busP L i k:=by
 unfold busB
 simp
def chkH (P r S B n nv:Nat) (L:Nat→Ent) (N:Nat) (o:List Nat) (s:Ms):Int × Int :=
 if firstJ (fun i => misT (L i)) N ≠ -1 then (firstJ (fun i => misT (L i)) N,4)
 else if firstJ (busB L) N ≠ -1 then (firstJ (busB L) N,10)
 else if (rpl P r S B n nv L o s (-1)).2 ≠ -1 then ((rpl P r S B n nv L o s (-1)).2,7)
 else (-1,0)
end
section
def mkT (L:Nat→Ent):Nat→Int→Bool
 | 0,_ => false
 | k + 1,x => if 0 < (L k).mar∧(L k).mar=x then true else mkT L k x
def laT (L:Nat→Ent):Nat→Int→Option Nat
 | 0,_ => none
 | k + 1,x => if (L k).who=x then some k else laT L k x
theorem mkT_iff (L:Nat→Ent) (x:Int):∀ k,mkT L k x=true ↔ ∃ j,j < k∧0 < (L j).mar∧(L j).mar=x
 | 0 => by simp [mkT]
 | k + 1 => by
  unfold mkT
  by_cases h:0 < (L k).mar∧(L k).mar=x
  ·rw [if_pos h]
   exact ⟨fun _ => ⟨k,by omega,h⟩,fun _ => rfl⟩
  ·rw [if_neg h,mkT_iff L x k]
   exact ⟨fun ⟨j,hj,hh⟩ => ⟨j,by omega,hh⟩,fun ⟨j,hj,hh⟩ => ⟨j,by
    rcases Nat.lt_or_ge j k with c | c
    ·exact c
    ·have:j=k:=by omega
     subst this
     exact absurd hh h,hh⟩⟩
theorem laT_some (L:Nat→Ent) (x:Int):∀ k j,laT L k x=some j→j < k∧(L j).who=x∧∀ i,j < i→i < k→(L i).who ≠ x
 | 0,j,h => by simp [laT] at h
 | k + 1,j,h => by
  unfold laT at h
  by_cases e:(L k).who=x
  ·rw [if_pos e] at h
   injection h with h
   subst h
   exact ⟨by omega,e,fun i h1 h2 => by omega⟩
  ·rw [if_neg e] at h
   obtain ⟨h1,h2,h3⟩:=laT_some L x k j h
   exact ⟨by omega,h2,fun i i1 i2 => by
    rcases Nat.lt_or_ge i k with c | c
    ·exact h3 i i1 c
    ·have:i=k:=by omega
     subst this
     exact e⟩
theorem laT_none (L:Nat→Ent) (x:Int):∀ k,laT L k x=none→∀ i,i < k→(L i).who ≠ x
 | 0,_,i,hi => by omega
 | k + 1,h,i,hi => by
  unfold laT at h
  by_cases e:(L k).who=x
  ·rw [if_pos e] at h
   cases h
  ·rw [if_neg e] at h
   rcases Nat.lt_or_ge i k with c | c
   ·exact laT_none L x k h i c
   ·have:i=k:=by omega
    subst this
    exact e
def atB (x:Ent) (t:Int):Bool:=!(x.fin != 0) || decide (t < x.fin)
theorem atB_true {x:Ent} {t:Int}:atB x t=true ↔ x.fin=0 ∨ t < x.fin:=by
 unfold atB
 simp
theorem misT_false {x:Ent} (h:misT x=false):0≤x.beg∧0≤x.mar∧0≤x.fin∧(0 < x.mar→x.beg < x.mar)∧(x.fin ≠ 0→x.mar ≠ 0∧x.mar≤x.fin):=by
 unfold misT at h
 simp only [Bool.or_eq_false_iff,Bool.and_eq_false_iff,decide_eq_false_iff_not] at h
 obtain ⟨⟨⟨h1,h2⟩,h3⟩,h4,h5⟩:=h
 refine ⟨by omega,by omega,by omega,fun hm => by omega,fun hf => ?_⟩
 rcases h5 with h5 | h5
 ·exact absurd hf h5
 ·omega
def busQ (L:Nat→Ent) (i:Nat):Bool:=mkT L i (L i).mar || (match laT L i (L i).who with
 | none => false
 | some j => atB (L j) (L i).beg)
theorem busQ_eq {L:Nat→Ent} {N i:Nat} (hm:∀ j,j < N→misT (L j)=false) (hi:i < N) (hb:∀ j,j < i→busB L j=false):busQ L i=busB L i:=by
 have key:busQ L i=true ↔ busB L i=true:=by
  rw [busB_true]
  unfold busQ
  rw [Bool.or_eq_true,mkT_iff]
  constructor
  ·rintro (⟨j,hj,h1,h2⟩ | h)
   ·exact ⟨j,hj,.inl ⟨by omega,h2.symm⟩⟩
   ·cases e:laT L i (L i).who with
    | none => rw [e] at h; cases h
    | some j =>
     rw [e] at h
     obtain ⟨h1,h2,_⟩:=laT_some L _ i j e
     exact ⟨j,h1,.inr ⟨h2.symm,atB_true.1 h⟩⟩
  ·rintro ⟨k,hk,h | ⟨h1,h2⟩⟩
   ·exact .inl ⟨k,hk,by omega,h.2.symm⟩
   ·right
    cases e:laT L i (L i).who with
    | none => exact absurd h1.symm (laT_none L _ i e k hk)
    | some j =>
     obtain ⟨j1,j2,j3⟩:=laT_some L _ i j e
     show atB (L j) (L i).beg=true
     rw [atB_true]
     rcases Nat.lt_trichotomy k j with c | c | c
     ·have hbj:=busB_false.1 (hb j j1) k c
      have hmj:=misT_false (hm j (by omega))
      have hne:¬ ((L k).fin=0 ∨ (L j).beg < (L k).fin):=fun hh => hbj (.inr ⟨by rw [j2,h1],hh⟩)
      by_cases hf:(L j).fin=0
      ·exact .inl hf
      ·right
       have:=hmj.2.2.2.2 hf
       have:=hmj.2.2.2.1 (by omega)
       omega
     ·subst c; exact h2
     ·exact absurd h1.symm (j3 k c hk)
 cases h1:busQ L i <;> cases h2:busB L i <;> simp_all
theorem firstJ_step {f:Nat→Bool} {k:Nat} (h:∀ i,i < k→f i=false) (hk:f k=false):∀ i,i < k + 1→f i=false:=fun i hi => by
 rcases Nat.lt_or_ge i k with c | c
 ·exact h i c
 ·have:i=k:=by omega
  subst this
  exact hk
end
section
open Go.RowKit Go.Maps Go.ChangeMaps
theorem iKey:Keyed Tryz.prog 3:=int_keyed Tryz.underlying3
def rngI (x:Int):Prop:=-9223372036854775808≤x∧x≤9223372036854775807
theorem iKey_rd {x:Int} (h:rngI x):keyOf Tryz.prog 3 (.int .i64 x)=some (.int .i64 x):=keyOf_int_mk Tryz.underlying3 (Go.WalkArith.wf_i64 h)
theorem iKey_key {x:Int} (h:rngI x):WideAt.IsKeyLit (Lit.int .i64 x):=Keyed.key iKey (iKey_rd h)
theorem iKey_ne {x y:Int} (h:y ≠ x):(Lit.int .i64 y) ≠ Lit.int .i64 x:=fun e => h (by injection e)
theorem zeroI9 (w:World):(zeroValue 3).run Tryz.prog w=.ok (.int .i64 0) w:=by kernel_rfl
theorem zeroB9 (w:World):(zeroValue 4).run Tryz.prog w=.ok (.bool false) w:=by kernel_rfl
theorem plainElem_bool {q:Bool}:plainElem (H:=Unit) Tryz.prog 4 (.bool q)=some (.lit (.bool q),[]):=by
 have h:=Tryz.underlying4
 simp [plainElem,h]
theorem plainElem_bool_inv {v:Value} {q:Bool} {ps:List MemPlace} (h:plainElem (H:=Unit) Tryz.prog 4 v=some (.lit (.bool q),ps)):v=.bool q:=by
 have hu:=Tryz.underlying4
 cases v <;> simp [plainElem,hu] at h
 rw [h.1]
structure MapIn (D:DataW Unit) (K:Int→Option Nat):Prop where
 has:∀ x,rngI x→Maps.has D (.int .i64 x)=(K x).isSome
 at_:∀ x p,rngI x→K x=some p→D.atKey (.int .i64 x) (.lit (.int .i64 0))=.lit (.int .i64 (p:Nat))
def MapBo (D:DataW Unit) (K:Int→Bool):Prop:=∀ x,rngI x→D.atKey (.int .i64 x) (.lit (.bool false))=.lit (.bool (K x))
theorem mapIn_new:MapIn (.map []) (fun _ => none):=⟨fun x _ => (by rw [Maps.has_eq]; rfl),fun _ _ _ h => (by cases h)⟩
theorem mapBo_new:MapBo (.map []) (fun _ => false):=fun x _ => rfl
set_option maxRecDepth 100000 in
theorem MapIn.put {D:DataW Unit} {K:Int→Option Nat} (h:MapIn D K) (hD:Tidy D) {x:Int} (hr:rngI x) (p:Nat):MapIn (D.put (.int .i64 x) (.lit (.int .i64 (p:Nat)))) (fun y => if x=y then some p else K y):=by
 have hk:=iKey_key hr
 refine ⟨fun y h' => ?_,fun y p' h' e => ?_⟩
 ·by_cases a:x=y
  ·subst a
   rw [if_pos rfl,has_put_same hD.isMap hk]; rfl
  ·rw [if_neg a,has_put_other (iKey_ne (Ne.symm a))]; exact h.has _ h'
 ·by_cases a:x=y
  ·subst a
   rw [if_pos rfl] at e
   injection e with e
   rw [atKey_put_same hD.isMap hk,e]
  ·rw [if_neg a] at e
   rw [atKey_put_other (iKey_ne (Ne.symm a))]; exact h.at_ _ _ h' e
set_option maxRecDepth 100000 in
theorem MapBo.put {D:DataW Unit} {K:Int→Bool} (h:MapBo D K) (hD:Tidy D) {x:Int} (hr:rngI x):MapBo (D.put (.int .i64 x) (.lit (.bool true))) (fun y => if x=y then true else K y):=by
 have hk:=iKey_key hr
 intro y h'
 show _=DataW.lit (.bool (if x=y then true else K y))
 by_cases a:x=y
 ·subst a
  rw [if_pos rfl,atKey_put_same hD.isMap hk]
 ·rw [if_neg a,atKey_put_other (iKey_ne (Ne.symm a))]; exact h _ h'
theorem look_bool {w:World} {b n:Nat} {D:DataW Unit} {K:Int→Bool} (h:w.ownsMap Tryz.prog 3 (plainElem (H:=Unit) Tryz.prog 4) b n D) (hm:MapBo D K) {x:Int} (hr:rngI x) :
  (Instr.lookup 127 (.map (some b)) (.int .i64 x) false).run Tryz.prog w=.ok (.bool (K x)) w:=by
 obtain ⟨v,ps,hrun,hv⟩:=h.lookup iKey Tryz.underlying127 (zeroB9 w) (plainElem_bool (q:=false)) (iKey_rd hr)
 rw [hm x hr] at hv
 rw [hrun,plainElem_bool_inv hv]
end
end Go.Proofs.YtfekhdgjgjodlaaGreat
