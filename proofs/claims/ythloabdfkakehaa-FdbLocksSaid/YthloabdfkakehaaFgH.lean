/-
  Words and contracts that a statement's proof rests on (FgH). No statement is proved here.
-/
import Derived.Test.YthloabdfkakehaaFgE
import Derived.Test.YthloabdfkakehaaFeC
import Derived.Test.YthloabdfkakehaaFgD
set_option linter.unusedVariables false
set_option linter.unusedSimpArgs false
namespace Go.Proofs.Ythloabdfkakehaa
open Go.RowKit
def opC (o:OpN):List Value:=[.int .i64 (o.K:Nat),.int .i64 o.v,.int .u64 (o.mc:Nat),.int .i64 o.port,.int .i64 o.vid,.int .u32 (o.now:Nat),.int .u32 (o.old:Nat)]
def opc:List OpN→List Value
 | [] => []
 | o :: l => opC o ++ opc l
theorem opc_append:∀ a b:List OpN,opc (a ++ b)=opc a ++ opc b
 | [],b => rfl
 | x :: a,b => by simp [opc,opc_append a b]
theorem opc_at:∀ (l:List OpN) (j f:Nat),f < 7→(opc l)[j * 7 + f]?=(l[j]?).bind fun x => (opC x)[f]?
 | [],j,f,_ => by simp [opc]
 | x :: l,0,f,h => by
  rw [opc,List.getElem?_append_left (by simp [opC]; omega)]
  simp
 | x :: l,j + 1,f,h => by
  have:=opc_at l j f h
  rw [opc,List.getElem?_append_right (by simp [opC]; omega)]
  have e:(j + 1) * 7 + f - (opC x).length=j * 7 + f:=by simp [opC]; omega
  rw [e,this]
  simp
def runF (b fb:Nat) (F:FcS) (V:Nat→Value):Nat→Value
 | 0 => .pointer (some ⟨b,0,none⟩)
 | 1 => .pointer (some ⟨fb,0,none⟩)
 | 2 => .int .i64 (F.S:Nat)
 | 3 => .int .i64 (F.B:Nat)
 | 4 => .int .i64 (F.n:Nat)
 | 5 => .int .i64 (F.tr:Nat)
 | 6 => V 0
 | 7 => V 1
 | 8 => V 2
 | 9 => V 3
 | 10 => V 4
 | 11 => V 5
 | 12 => V 6
 | _ => .bool false
def updW (V:Nat→Value) (k:Nat) (v:Value) (i:Nat):Value:=if i=k then v else V i
section
variable {w w':World} {lo b fb L x rb K:Nat} {F:FcS} {m m':MemS} {N:Nat} {A:Nat→FaS} {ab:Nat→Nat} {Es:Nat→Nat→Prop} {g g':Nat→Nat→Pl} {R R':Nat→RowV} {V:Nat→Value}
theorem FactAt.tch {D:Nat→Prop} {E:Nat→Prop} {ab:Nat} {a:FaS} (h:FactAt w L E fb ab F a) (ht:Tch D w w') (hd:∀ k,E k→¬ D k):FactAt w' L E fb ab F a:=by
 obtain ⟨fv,lv,wv,h⟩:=h
 exact ⟨fv,lv,wv,h.tch ht hd⟩
theorem ActsAt.tch {D:Nat→Prop} (h:ActsAt w lo b fb L F m N A ab Es g) (ht:Tch D w w') (h1:∀ k,lo≤k→k < lo + 3→¬ D k) (h2:¬ D fb) (h3:∀ i,i < N→∀ k,Es i k→¬ D k):ActsAt w' lo b fb L F m N A ab Es g where
 fd:=h.fd.tch ht h1 h2
 act:=fun i hi => (h.act i hi).tch ht (h3 i hi)
 apart:=h.apart
 inv:=h.inv
 rm:=h.rm
 ra:=h.ra
theorem ActsAt.low (h:ActsAt w lo b fb L F m N A ab Es g) {i:Nat} (hi:i < N) {k:Nat} (hk:Es i k):L≤k∧k < w.heap.size:=by
 obtain ⟨_,_,_,h9⟩:=h.act i hi
 exact h9.low k hk
structure RunM (w:World) (lo b fb rb L:Nat) (F:FcS) (m:MemS) (N:Nat) (A:Nat→FaS) (ab:Nat→Nat) (Es:Nat→Nat→Prop) (g:Nat→Nat→Pl) (K:Nat) (R:Nat→RowV) (V:Nat→Value):Prop where
 acts:ActsAt w lo b fb L F m N A ab Es g
 row:w.rowIs rb 68 14 (runF b fb F V)
 rows:RowsIn w L K R
 far:∀ i,i < N→∀ x,Es i x→¬ RowD K R x
 ord:fb < rb∧rb < L∧L≤w.heap.size
theorem RunM.lo3 (h:RunM w lo b fb rb L F m N A ab Es g K R V):lo + 3≤fb∧lo + 3≤L:=by
 have:=h.acts.fd.out
 have:=h.ord
 omega
theorem RunM.rows_turn (h:RunM w lo b fb rb L F m N A ab Es g K R V) (hr:RowsIn w' L K R') (ht:Tch (RowD K R) w w') (hf:∀ x,RowD K R' x→RowD K R x ∨ w.heap.size≤x):RunM w' lo b fb rb L F m N A ab Es g K R' V:=by
 obtain ⟨o1,o2,o3⟩:=h.ord
 obtain ⟨l1,l2⟩:=h.lo3
 have hlow:∀ x,RowD K R x→L≤x:=fun x hx => (h.rows.lt hx).1
 refine ⟨h.acts.tch ht (fun k h1 h2 h3 => by have:=hlow k h3; omega) (fun h3 => by have:=hlow _ h3; omega) (fun i hi k hk => h.far i hi k hk),rowIs_tch h.row ht (fun h3 => by have:=hlow _ h3; omega),hr,fun i hi x hx hd => ?_,o1,o2,Nat.le_trans o3 ht.size⟩
 rcases hf x hd with h9 | h9
 ·exact h.far i hi x hx h9
 ·have:=(h.acts.low hi hx).2
  omega
theorem RunM.below (h:RunM w lo b fb rb L F m N A ab Es g K R V) (hb:Below w.heap.size w w'):RunM w' lo b fb rb L F m N A ab Es g K R V :=
 ⟨h.acts.below hb,h.row.of_block (hb.block _ h.row.lt),h.rows.below hb,h.far,h.ord.1,h.ord.2.1,Nat.le_trans h.ord.2.2 hb.size⟩
theorem RunM.set (h:RunM w lo b fb rb L F m N A ab Es g K R V) {k:Nat} (hk:k < K) {T:TypeId} {z n q cap:Nat} {l:List Value} (hr:R k=⟨T,z,.slice (some ⟨q,0,none⟩) n cap,n,l⟩) (j:Nat) (u:Value) :
  RunM (w.setCell ⟨q,j,none⟩ u) lo b fb rb L F m N A ab Es g K (updV R k ⟨T,z,.slice (some ⟨q,0,none⟩) n cap,n,l.set j u⟩) V:=by
 obtain ⟨h1,h2⟩:=h.rows.set hk hr j u
 refine h.rows_turn h1 h2 fun x hx => .inl ?_
 obtain ⟨i,hi,e⟩:=hx
 by_cases e9:i=k
 ·rw [e9,updV_same] at e
  exact ⟨k,hk,by rw [hr]; exact e⟩
 ·rw [updV_other _ _ e9] at e
  exact ⟨i,hi,e⟩
theorem RunM.app (h:RunM w lo b fb rb L F m N A ab Es g K R V) {k:Nat} (hk:k < K) {T:TypeId} {z n n':Nat} {v v':Value} {l l':List Value} (hr:R k=⟨T,z,v,n,l⟩) {o:Obj} (how:w'.ownsRow L T z v' n' l') (hg:(w.alloc o).grownBy w' v.ownBlock) (hl:v'.ownBlock=v.ownBlock ∨ v'.ownBlock=some (w.alloc o).heap.size) :
  RunM w' lo b fb rb L F m N A ab Es g K (updV R k ⟨T,z,v',n',l'⟩) V:=by
 obtain ⟨h1,h2⟩:=h.rows.app hk hr how hg hl
 refine h.rows_turn h1 h2 fun x hx => ?_
 obtain ⟨i,hi,e⟩:=hx
 by_cases e9:i=k
 ·rw [e9,updV_same] at e
  rcases hl with hl | hl
  ·exact .inl ⟨k,hk,by rw [hr,← hl]; exact e⟩
  ·right
   have e:v'.ownBlock=some x:=e
   rw [hl] at e
   injection e with e
   have e3:=World.size_alloc w o
   omega
 ·rw [updV_other _ _ e9] at e
  exact .inl ⟨i,hi,e⟩
theorem RunM.app' (h:RunM w lo b fb rb L F m N A ab Es g K R V) {k:Nat} (hk:k < K) {T:TypeId} {z n n':Nat} {v v':Value} {l l':List Value} (hr:R k=⟨T,z,v,n,l⟩) (how:w'.ownsRow L T z v' n' l') (hg:w.grownBy w' v.ownBlock) (hl:v'.ownBlock=v.ownBlock ∨ v'.ownBlock=some w.heap.size) :
  RunM w' lo b fb rb L F m N A ab Es g K (updV R k ⟨T,z,v',n',l'⟩) V∧Tch (fun y => v.ownBlock=some y) w w'∧(∀ y,v'.ownBlock=some y→v.ownBlock=some y ∨ y=w.heap.size):=by
 have hv:(R k).v=v:=by rw [hr]
 have hT:Tch (fun y => v.ownBlock=some y) w w':=Tch.ofGrown hg fun j hj => hj
 have hkey:∀ i x,i < K→i ≠ k→(R i).v.ownBlock=some x→v'.ownBlock ≠ some x:=fun i x hi hne h1 e => by
  rcases hl with hl | hl
  ·exact h.rows.dis i k hi hk hne x h1 (by rw [hv,← hl]; exact e)
  ·rw [hl] at e
   have:=((h.rows.own i hi).lt x h1).2
   injection e with e
   omega
 have hrow:RowsIn w' L K (updV R k ⟨T,z,v',n',l'⟩):=by
  refine ⟨fun i hi => ?_,fun i i' hi hi' hne x hx => ?_⟩
  ·by_cases e:i=k
   ·rw [e,updV_same]; exact how
   ·rw [updV_other _ _ e]
    exact own_tch (h.rows.own i hi) hT fun x hx e2 => h.rows.dis i k hi hk e x hx (by rw [hv]; exact e2)
  ·by_cases e:i=k
   ·rw [e,updV_same] at hx
    rw [updV_other _ _ (by omega)]
    exact fun e2 => hkey i' x hi' (by omega) e2 hx
   ·rw [updV_other _ _ e] at hx
    by_cases e':i'=k
    ·rw [e',updV_same]
     exact hkey i x hi e hx
    ·rw [updV_other _ _ e']
     exact h.rows.dis i i' hi hi' hne x hx
 refine ⟨h.rows_turn hrow (hT.mono fun x _ hx => ⟨k,hk,by rw [hv]; exact hx⟩) fun x hx => ?_,hT,fun y hy => ?_⟩
 ·obtain ⟨i,hi,e⟩:=hx
  by_cases e9:i=k
  ·rw [e9,updV_same] at e
   have e:v'.ownBlock=some x:=e
   rcases hl with hl | hl
   ·exact .inl ⟨k,hk,by rw [hv,← hl]; exact e⟩
   ·right
    rw [hl] at e
    injection e with e
    omega
  ·rw [updV_other _ _ e9] at e
   exact .inl ⟨i,hi,e⟩
 ·rcases hl with hl | hl
  ·exact .inl (by rw [← hl]; exact hy)
  ·rw [hl] at hy
   injection hy with hy
   exact .inr hy.symm
theorem RunM.acted (h:RunM w lo b fb rb L F m N A ab Es g K R V) {i:Nat} (hi:i < N) {a':FaS} (ht:Tch (FdD lo (Es i)) w w') (ha:ActsAt w' lo b fb L F m' N (updA A i a') ab (updE Es i (growE (Es i) w w')) g'):RunM w' lo b fb rb L F m' N (updA A i a') ab (updE Es i (growE (Es i) w w')) g' K R V:=by
 obtain ⟨o1,o2,o3⟩:=h.ord
 obtain ⟨l1,l2⟩:=h.lo3
 refine ⟨ha,rowIs_tch h.row ht (fun hd => ?_),h.rows.tch ht (fun x hx hd => ?_),fun j hj x hx hd => ?_,o1,o2,Nat.le_trans o3 ht.size⟩
 ·rcases hd with hd | hd
  ·omega
  ·have:=(h.acts.low hi hd).1
   omega
 ·rcases hd with hd | hd
  ·have:=(h.rows.lt hx).1
   omega
  ·exact h.far i hi x hd hx
 ·unfold updE at hx
  by_cases e:j=i
  ·rw [if_pos e] at hx
   rcases hx with hx | hx
   ·exact h.far i hi x hx hd
   ·have:=(h.rows.lt hd).2
    omega
  ·rw [if_neg e] at hx
   exact h.far j hj x hx hd
theorem RunM.began (h:RunM w lo b fb rb L F m N A ab Es g K R V) (hb:Below w.heap.size w w') {a:FaS} (ha:FactAt w' L (newE w w') fb x F a) (hinv:FdbInv F m (N + 1) (updA A N a) g) (hr:ActR a):RunM w' lo b fb rb L F m (N + 1) (updA A N a) (updN ab N x) (updE Es N (newE w w')) g K R V:=by
 have h9:=h.below hb
 refine ⟨h.acts.more hb ha hinv hr,h9.row,h9.rows,fun j hj y hy hd => ?_,h9.ord⟩
 unfold updE newE at hy
 by_cases e:j=N
 ·rw [if_pos e] at hy
  rcases hy with hy | hy
  ·exact hy
  ·have:=(h.rows.lt hd).2
   omega
 ·rw [if_neg e] at hy
  exact h.far j (by omega) y hy hd
theorem RunM.setV (h:RunM w lo b fb rb L F m N A ab Es g K R V) {k:Nat} (hk:k < 7) (v:Value):RunM (w.setCell ⟨rb,6 + k,none⟩ v) lo b fb rb L F m N A ab Es g K R (updW V k v):=by
 obtain ⟨o1,o2,o3⟩:=h.ord
 obtain ⟨l1,l2⟩:=h.lo3
 have ht:Tch (fun y => y=rb) w (w.setCell ⟨rb,6 + k,none⟩ v):=Tch.setCell (D:=fun y => y=rb) (Tch.refl _ w) (p:=⟨rb,6 + k,none⟩) rfl v
 refine ⟨h.acts.tch ht (fun k h1 h2 h3 => by omega) (fun h3 => by omega) (fun i hi k hk h3 => by have:=(h.acts.low hi hk).1; omega),(h.row.set (6 + k) v).congr fun i hi => ?_,h.rows.tch ht (fun x hx h3 => by have:=(h.rows.lt hx).1; omega),h.far,o1,o2,Nat.le_trans o3 ht.size⟩
 rcases (show k=0 ∨ k=1 ∨ k=2 ∨ k=3 ∨ k=4 ∨ k=5 ∨ k=6 by omega) with rfl | rfl | rfl | rfl | rfl | rfl | rfl <;> (
  match i,hi with
  | 0,_ => rfl
  | 1,_ => rfl
  | 2,_ => rfl
  | 3,_ => rfl
  | 4,_ => rfl
  | 5,_ => rfl
  | 6,_ => rfl
  | 7,_ => rfl
  | 8,_ => rfl
  | 9,_ => rfl
  | 10,_ => rfl
  | 11,_ => rfl
  | 12,_ => rfl
  | 13,_ => rfl
  | _ + 14,hh => exact absurd hh (by omega))
theorem RunM.cell (h:RunM w lo b fb rb L F m N A ab Es g K R V) {i:Nat} (hi:i < 14):w.cell? ⟨rb,i,none⟩=some (runF b fb F V i):=h.row.cell hi
theorem RunM.slice (h:RunM w lo b fb rb L F m N A ab Es g K R V) {k:Nat} (hk:k < K) {T:TypeId} {z n:Nat} {v:Value} {l:List Value} (hr:R k=⟨T,z,v,n,l⟩):(∃ A' cap,v=.slice A' n cap∧n≤cap∧cap≤maxLen)∧(0 < n→∃ q cap,v=.slice (some ⟨q,0,none⟩) n cap∧n≤cap∧cap≤maxLen∧(∀ j,j < n * z→w.cell? ⟨q,j,none⟩=l[j]?)∧∀ j,w.frozen? ⟨q,j,none⟩=false):=by
 have hown:=h.rows.own k hk
 rw [hr] at hown
 constructor
 ·rcases hown.2 with ⟨e1,e2⟩ | ⟨q,cap,cur,e1,_,_,e2,e3,_⟩
  ·have e2:n=0:=e2
   subst e2
   exact ⟨none,0,e1,Nat.le_refl _,Nat.zero_le _⟩
  ·exact ⟨_,cap,e1,e2,e3⟩
 ·intro hn
  rcases hown.2 with ⟨e1,e2⟩ | ⟨q,cap,cur,e1,_,_,e2,e3,_⟩
  ·have e2:n=0:=e2
   omega
  ·have e1:v=.slice (some ⟨q,0,none⟩) n cap:=e1
   subst e1
   exact ⟨q,cap,rfl,e2,e3,fun j hj => hown.cellAt j hj,hown.frozenAt⟩
structure LitAt (w:World) (K:Nat) (R:Nat→RowV) (g:Nat) (n:Nat) (xs:List Value):Prop where
 sl:Sl w (g + 1) n (.slice (some ⟨g,0,none⟩) 1 1) 1 xs
 lt:g < w.heap.size
 far:¬ RowD K R g
theorem LitAt.below {q n:Nat} {xs:List Value} (h:LitAt w K R q n xs) (hb:Below w.heap.size w w'):LitAt w' K R q n xs :=
 ⟨h.sl.below (hb.mono (by have:=h.lt; omega)),Nat.lt_of_lt_of_le h.lt hb.size,h.far⟩
end
end Go.Proofs.Ythloabdfkakehaa
