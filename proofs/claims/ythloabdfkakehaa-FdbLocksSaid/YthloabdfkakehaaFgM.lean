/-
  Words and contracts that a statement's proof rests on (FgI, FgM). No statement is proved here.
-/
import Derived.Test.YthloabdfkakehaaFgH
set_option linter.unusedVariables false
set_option linter.unusedSimpArgs false
namespace Go.Proofs.Ythloabdfkakehaa
section
open Go.RowKit
def kvI (f:Nat→Int) (n:Nat):List Value:=(List.range n).map fun i => .int .i64 (f i)
def ptI (ab:Nat→Nat) (n:Nat):List Value:=(List.range n).map fun i => .pointer (some ⟨ab i,0,none⟩)
theorem kvI_at (f:Nat→Int) {n i:Nat} (h:i < n):(kvI f n)[i]?=some (.int .i64 (f i)):=by simp [kvI,List.getElem?_range h]
theorem ptI_at (ab:Nat→Nat) {n i:Nat} (h:i < n):(ptI ab n)[i]?=some (.pointer (some ⟨ab i,0,none⟩)):=by simp [ptI,List.getElem?_range h]
theorem kvI_congr {f g:Nat→Int} {n:Nat} (h:∀ i,i < n→f i=g i):kvI f n=kvI g n:=by
 unfold kvI
 apply List.map_congr_left
 intro i hi
 rw [h i (List.mem_range.1 hi)]
theorem kvI_succ (f:Nat→Int) (n:Nat) (x:Int):kvI (updI f n x) (n + 1)=kvI f n ++ [.int .i64 x]:=by
 unfold kvI
 rw [List.range_succ,List.map_append]
 congr 1
 ·apply List.map_congr_left
  intro i hi
  unfold updI
  rw [if_neg (by have:=List.mem_range.1 hi; omega)]
 ·simp [updI]
theorem ptI_succ (ab:Nat→Nat) (n x:Nat):ptI (updN ab n x) (n + 1)=ptI ab n ++ [.pointer (some ⟨x,0,none⟩)]:=by
 unfold ptI
 rw [List.range_succ,List.map_append]
 congr 1
 ·apply List.map_congr_left
  intro i hi
  unfold updN
  rw [if_neg (by have:=List.mem_range.1 hi; omega)]
 ·simp [updN]
theorem opc_succ (op:Nat→OpN) (n:Nat) (o:OpN):opc ((List.range (n + 1)).map (updO op n o))=opc ((List.range n).map op) ++ opC o:=by
 rw [List.range_succ,List.map_append,opc_append]
 congr 1
 ·congr 1
  apply List.map_congr_left
  intro i hi
  unfold updO
  rw [if_neg (by have:=List.mem_range.1 hi; omega)]
 ·simp [updO,opc]
theorem kvI_set (f:Nat→Int) (n p:Nat) (x:Int):(kvI f n).set p (.int .i64 x)=kvI (updI f p x) n:=by
 apply List.ext_getElem?
 intro i
 rw [List.getElem?_set]
 by_cases h:i < n
 ·rw [kvI_at _ h,kvI_at _ h]
  unfold updI
  by_cases e:p=i
  ·subst e
   rw [if_pos rfl,if_pos rfl,if_pos (by simpa [kvI] using h)]
  ·rw [if_neg e,if_neg (by omega)]
 ·have h1:(kvI f n)[i]?=none:=by simp [kvI]; omega
  have h2:(kvI (updI f p x) n)[i]?=none:=by simp [kvI]; omega
  rw [h1,h2]
  split
  ·split
   ·rename_i h3 h4
    exfalso
    subst h3
    simp [kvI] at h4
    omega
   ·rfl
  ·rfl
def rowsF (P:Nat) (ls:Nat→List OpN) (lv:Nat→Value) (ab:Nat→Nat) (N:Nat) (at_:Nat→Nat) (nw:Nat→Int) (op:Nat→OpN) (fr tt:Nat→Int) (V:Nat→Value) (k:Nat):RowV :=
 if k=0 then ⟨66,1,V 0,P,(List.range P).map lv⟩
 else if k=1 then ⟨3,1,V 1,P,kvI (fun p => (at_ p:Int)) P⟩
 else if k=2 then ⟨3,1,V 2,P,kvI nw P⟩
 else if k=3 then ⟨42,1,V 3,N,ptI ab N⟩
 else if k=4 then ⟨106,7,V 4,N,opc ((List.range N).map op)⟩
 else if k=5 then ⟨3,1,V 5,N,kvI fr N⟩
 else if k=6 then ⟨3,1,V 6,N,kvI tt N⟩
 else ⟨106,7,lv (k - 7),(ls (k - 7)).length,opc (ls (k - 7))⟩
def rowsS (P:Nat) (ls:Nat→List OpN) (lv:Nat→Value) (ab:Nat→Nat) (s:RunS) (V:Nat→Value):Nat→RowV:=rowsF P ls lv ab s.N s.at_ s.nw s.op s.fr s.tt V
section
variable {w w':World} {lo b fb L x rb K:Nat} {F:FcS} {m m':MemS} {N:Nat} {A:Nat→FaS} {ab:Nat→Nat} {Es:Nat→Nat→Prop} {g g':Nat→Nat→Pl} {R R':Nat→RowV} {V V':Nat→Value} {P:Nat} {ls:Nat→List OpN} {lv:Nat→Value} {s:RunS}
theorem RunM.congr (h:RunM w lo b fb rb L F m N A ab Es g K R V) (e:∀ k,k < K→R' k=R k) (e2:∀ k,k < 7→V' k=V k):RunM w lo b fb rb L F m N A ab Es g K R' V':=by
 refine ⟨h.acts,h.row.congr fun i hi => ?_,h.rows.congr e,fun i hi x hx hd => h.far i hi x hx ?_,h.ord⟩
 ·match i,hi with
  | 0,_ => rfl
  | 1,_ => rfl
  | 2,_ => rfl
  | 3,_ => rfl
  | 4,_ => rfl
  | 5,_ => rfl
  | 6,_ => exact (e2 0 (by omega)).symm
  | 7,_ => exact (e2 1 (by omega)).symm
  | 8,_ => exact (e2 2 (by omega)).symm
  | 9,_ => exact (e2 3 (by omega)).symm
  | 10,_ => exact (e2 4 (by omega)).symm
  | 11,_ => exact (e2 5 (by omega)).symm
  | 12,_ => exact (e2 6 (by omega)).symm
  | 13,_ => rfl
  | _ + 14,hh => exact absurd hh (by omega)
 ·obtain ⟨k,hk,hb⟩:=hd
  exact ⟨k,hk,by rw [← e k hk]; exact hb⟩
theorem RunM.regs (h:RunM w lo b fb rb L F m N A ab Es g K R V) (hi:FdbInv F m N A g'):RunM w lo b fb rb L F m N A ab Es g' K R V :=
 ⟨⟨h.acts.fd,h.acts.act,h.acts.apart,hi,h.acts.rm,h.acts.ra⟩,h.row,h.rows,h.far,h.ord⟩
theorem RunM.at_ (h:RunM w lo b fb rb L F m N A ab Es g K R V) {k:Nat} (hk:k < K) {T:TypeId} {z n q cap:Nat} {l:List Value} (hr:R k=⟨T,z,.slice (some ⟨q,0,none⟩) n cap,n,l⟩):(∀ j,j < n * z→w.cell? ⟨q,j,none⟩=l[j]?)∧(∀ j,w.frozen? ⟨q,j,none⟩=false)∧L≤q∧q < w.heap.size:=by
 have hown:=h.rows.own k hk
 have hlt:=h.rows.lt (x:=q) ⟨k,hk,by rw [hr]; rfl⟩
 rw [hr] at hown
 exact ⟨fun j hj => hown.cellAt j hj,hown.frozenAt,hlt⟩
def RunAt (w:World) (lo b fb rb L:Nat) (F:FcS) (P:Nat) (ls:Nat→List OpN) (lv:Nat→Value) (s:RunS):Prop :=
 ∃ g ab Es V,RunM w lo b fb rb L F s.m s.N s.A ab Es g (7 + P) (rowsS P ls lv ab s V) V∧RunK F P ls s g
theorem RunAt.below (h:RunAt w lo b fb rb L F P ls lv s) (hb:Below w.heap.size w w'):RunAt w' lo b fb rb L F P ls lv s:=by
 obtain ⟨g,ab,Es,V,h1,h2⟩:=h
 exact ⟨g,ab,Es,V,h1.below hb,h2⟩
def RunD (lo rb L k:Nat):Prop:=(lo≤k∧k < lo + 3) ∨ k=rb ∨ L≤k
theorem begun_rows (F:FcS) (p:Nat) (o:OpN) (y:Nat) (v3 v4 v5 v6:Value) (k:Nat) (hk:k < 7 + P) :
  rowsS P ls lv (updN ab s.N y) (begR F s p o) (updW (updW (updW (updW V 3 v3) 4 v4) 5 v5) 6 v6) k =
  updV (updV (updV (updV (updV (updV (rowsS P ls lv ab s V) 1 ⟨3,1,V 1,P,(kvI (fun p => (s.at_ p:Int)) P).set p (.int .i64 (s.at_ p + 1:Nat))⟩) 2 ⟨3,1,V 2,P,(kvI s.nw P).set p (.int .i64 (s.N:Nat))⟩) 3 ⟨42,1,v3,s.N + 1,ptI ab s.N ++ [.pointer (some ⟨y,0,none⟩)]⟩) 4 ⟨106,7,v4,s.N + 1,opc ((List.range s.N).map s.op) ++ opC o⟩) 5 ⟨3,1,v5,s.N + 1,kvI s.fr s.N ++ [.int .i64 s.m.t]⟩) 6 ⟨3,1,v6,s.N + 1,kvI s.tt s.N ++ [.int .i64 (-1)]⟩ k:=by
 rw [kvI_set,kvI_set,← ptI_succ,← opc_succ,← kvI_succ,← kvI_succ]
 rcases (show k=0 ∨ k=1 ∨ k=2 ∨ k=3 ∨ k=4 ∨ k=5 ∨ k=6 ∨ 7≤k by omega) with rfl | rfl | rfl | rfl | rfl | rfl | rfl | h7
 ·rfl
 ·show (⟨3,1,V 1,P,_⟩:RowV)=⟨3,1,V 1,P,_⟩
  congr 1
  exact kvI_congr fun i hi => by
   show ((updN s.at_ p (s.at_ p + 1) i:Nat):Int)=updI (fun p => (s.at_ p:Int)) p ((s.at_ p + 1:Nat):Int) i
   unfold updN updI
   split <;> rfl
 ·rfl
 ·rfl
 ·rfl
 ·rfl
 ·rfl
 ·unfold updV rowsS rowsF
  have n0:¬ k=0:=by omega
  have n1:¬ k=1:=by omega
  have n2:¬ k=2:=by omega
  have n3:¬ k=3:=by omega
  have n4:¬ k=4:=by omega
  have n5:¬ k=5:=by omega
  have n6:¬ k=6:=by omega
  simp only [n0,n1,n2,n3,n4,n5,n6,if_false]
theorem over_rows (F:FcS) (p i:Nat) (lg:List Nat) (h0:(stepF F s.m (s.A i)).2.st=0) (k:Nat) (hk:k < 7 + P) :
  rowsS P ls lv ab (goR F s p i lg) V k =
  updV (updV (rowsS P ls lv ab s V) 6 ⟨3,1,V 6,s.N,(kvI s.tt s.N).set i (.int .i64 (s.m.t + 1))⟩) 2 ⟨3,1,V 2,P,(kvI s.nw P).set p (.int .i64 (-1))⟩ k:=by
 rw [kvI_set,kvI_set]
 have e1:(goR F s p i lg).tt=updI s.tt i (s.m.t + 1):=if_pos h0
 have e2:(goR F s p i lg).nw=updI s.nw p (-1):=if_pos h0
 unfold rowsS
 rw [e1,e2]
 rcases (show k=0 ∨ k=1 ∨ k=2 ∨ k=3 ∨ k=4 ∨ k=5 ∨ k=6 ∨ 7≤k by omega) with rfl | rfl | rfl | rfl | rfl | rfl | rfl | h7
 ·rfl
 ·rfl
 ·rfl
 ·rfl
 ·rfl
 ·rfl
 ·rfl
 ·unfold updV rowsF
  have n0:¬ k=0:=by omega
  have n1:¬ k=1:=by omega
  have n2:¬ k=2:=by omega
  have n3:¬ k=3:=by omega
  have n4:¬ k=4:=by omega
  have n5:¬ k=5:=by omega
  have n6:¬ k=6:=by omega
  simp only [n0,n1,n2,n3,n4,n5,n6,if_false]
theorem on_rows (F:FcS) (p i:Nat) (lg:List Nat) (h0:(stepF F s.m (s.A i)).2.st ≠ 0) (k:Nat):rowsS P ls lv ab (goR F s p i lg) V k=rowsS P ls lv ab s V k:=by
 have e1:(goR F s p i lg).tt=s.tt:=if_neg h0
 have e2:(goR F s p i lg).nw=s.nw:=if_neg h0
 unfold rowsS
 rw [e1,e2]
 rfl
theorem RunM.lit (h:RunM w lo b fb rb L F m N A ab Es g K R V) (cs:Array Value) (T:TypeId) (n:Nat) (hn:cs.size=1 * n):RunM (w.alloc (.cells cs T)) lo b fb rb L F m N A ab Es g K R V∧LitAt (w.alloc (.cells cs T)) K R w.heap.size n cs.toList:=by
 refine ⟨h.below ((Below.refl _ _).alloc (Nat.le_refl _) _),?_,by simp,fun hd => ?_⟩
 ·have:=Sl.of_own (World.ownsRow_lit (base:=w.heap.size) (e:=T) (size:=n) w cs 1 (Nat.le_refl _) (by decide) hn)
  simpa using this
 ·have:=(h.rows.lt hd).2
  omega
theorem LitAt.app {q n k:Nat} {xs:List Value} {v v':Value} {r:RowV} (h:LitAt w K R q n xs) (hk:k < K) (hv:(R k).v=v) (ht:Tch (fun y => v.ownBlock=some y) w w') (hr:r.v=v') (hn:∀ y,v'.ownBlock=some y→v.ownBlock=some y ∨ y=w.heap.size):LitAt w' K (updV R k r) q n xs:=by
 have hq:¬ v.ownBlock=some q:=fun e => h.far ⟨k,hk,by rw [hv]; exact e⟩
 have hlt:=h.lt
 refine ⟨?_,Nat.lt_of_lt_of_le hlt ht.size,fun hd => ?_⟩
 ·obtain ⟨z0,A',cap,z1,z2,z3,z4⟩:=h.sl
  refine ⟨z0,A',cap,z1,z2,z3,fun hn0 => ?_⟩
  obtain ⟨b',off,e1,e2,e3⟩:=z4 hn0
  refine ⟨b',off,e1,e2,fun j hj => ?_⟩
  have e4:b'=q:=by
   rw [e1] at z1
   injection z1 with z1 _ _
   injection z1 with z1
   injection z1 with z1 _ _
   exact z1.symm
  subst e4
  exact (ht.cell (p:=⟨b',off + j,none⟩) hlt hq).trans (e3 j hj)
 ·obtain ⟨i,hi,e⟩:=hd
  by_cases e9:i=k
  ·rw [e9,updV_same,hr] at e
   rcases hn _ e with h9 | h9
   ·exact hq h9
   ·omega
  ·rw [updV_other _ _ e9] at e
   exact h.far ⟨i,hi,e⟩
theorem RowD_upd {k:Nat} {r:RowV} (hr:r.v=(R k).v) {y:Nat} (h:RowD K (updV R k r) y):RowD K R y:=by
 obtain ⟨i,hi,e⟩:=h
 by_cases e9:i=k
 ·rw [e9,updV_same,hr] at e
  exact ⟨k,by omega,e⟩
 ·rw [updV_other _ _ e9] at e
  exact ⟨i,hi,e⟩
theorem LitAt.cell {q n:Nat} {xs:List Value} (h:LitAt w K R q n xs) {j:Nat} (hj:j < n):w.cell? ⟨q,j,none⟩=xs[j]?:=by
 obtain ⟨z0,A',cap,z1,z2,z3,z4⟩:=h.sl
 obtain ⟨b',off,e1,e2,e3⟩:=z4 (by omega)
 rw [e1] at z1
 injection z1 with z1 _ _
 injection z1 with z1
 injection z1 with z1 z5 _
 subst z1
 have:=e3 j (by omega)
 rw [← z5,Nat.zero_add] at this
 exact this
theorem LitAt.of_row {q n:Nat} {T:TypeId} {f:Nat→Value} {xs:List Value} (h:w.rowIs q T n f) (hx:xs.length=n) (hf:∀ j,j < n→xs[j]?=some (f j)) (hd:¬ RowD K R q):LitAt w K R q n xs :=
 ⟨⟨by omega,_,_,rfl,Nat.le_refl _,by decide,fun _ => ⟨q,0,rfl,by omega,fun j hj => by rw [Nat.zero_add,h.cell (by omega),hf j (by omega)]⟩⟩,h.lt,hd⟩
theorem stActs:ST Try.prog 65 42 (.pointer none) 1 8:=ST.mk Try.underlying65 (by kernel_rfl) rfl (by omega) (by omega)
theorem stOps7:ST Try.prog 66 106 (.agg #[.int .i64 0,.int .i64 0,.int .u64 0,.int .i64 0,.int .i64 0,.int .u32 0,.int .u32 0]) 7 48:=ST.mk Try.underlying66 (by kernel_rfl) rfl (by omega) (by omega)
theorem stLists:ST Try.prog 61 66 (.slice none 0 0) 1 24:=ST.mk Try.underlying61 (by kernel_rfl) rfl (by omega) (by omega)
end
end
section
open Go.RowKit
section
variable {w w':World} {lo b fb L x rb K:Nat} {F:FcS} {m m':MemS} {N:Nat} {A:Nat→FaS} {ab:Nat→Nat} {Es:Nat→Nat→Prop} {g g':Nat→Nat→Pl} {R R':Nat→RowV} {V V':Nat→Value} {P:Nat} {ls:Nat→List OpN} {lv:Nat→Value} {s:RunS}
theorem RunM.addrow (h:RunM w lo b fb rb L F m N A ab Es g K R V) (T:TypeId) (z:Nat):RunM w lo b fb rb L F m N A ab Es g (K + 1) (updV R K ⟨T,z,.slice none 0 0,0,[]⟩) V:=by
 refine ⟨h.acts,h.row,⟨fun i hi => ?_,fun i j hi hj hne y hy => ?_⟩,fun i hi y hy hd => ?_,h.ord⟩
 ·by_cases e:i=K
  ·rw [e,updV_same]; exact World.ownsRow_nil _ _ _ _
  ·rw [updV_other _ _ e]; exact h.rows.own i (by omega)
 ·by_cases e:i=K
  ·rw [e,updV_same] at hy; cases hy
  ·rw [updV_other _ _ e] at hy
   by_cases e2:j=K
   ·rw [e2,updV_same]; exact fun h9 => by cases h9
   ·rw [updV_other _ _ e2]; exact h.rows.dis i j (by omega) (by omega) hne y hy
 ·obtain ⟨k,hk,e⟩:=hd
  by_cases e9:k=K
  ·rw [e9,updV_same] at e; cases e
  ·rw [updV_other _ _ e9] at e
   exact h.far i hi y hy ⟨k,by omega,e⟩
theorem RunM.push (h:RunM w lo b fb rb L F m N A ab Es g K R V) {k:Nat} (hk:k < K) (hk7:k < 7) {T:TypeId} {z n n':Nat} {v v':Value} {l l':List Value} (hr:R k=⟨T,z,v,n,l⟩) {o:Obj} (how:w'.ownsRow L T z v' n' l') (hg:(w.alloc o).grownBy w' v.ownBlock) (hl:v'.ownBlock=v.ownBlock ∨ v'.ownBlock=some (w.alloc o).heap.size) :
  RunM w' lo b fb rb L F m N A ab Es g K (updV R k ⟨T,z,v',n',l'⟩) V∧RunM (w'.setCell ⟨rb,6 + k,none⟩ v') lo b fb rb L F m N A ab Es g K (updV R k ⟨T,z,v',n',l'⟩) (updW V k v')∧Tch (RunD lo rb L) w (w'.setCell ⟨rb,6 + k,none⟩ v') :=
 ⟨h.app hk hr how hg hl,(h.app hk hr how hg hl).setV hk7 v',((h.rows.app hk hr how hg hl).2.mono fun x _ hx => .inr (.inr (h.rows.lt hx).1)).setCell (.inr (.inl rfl)) _⟩
def run0 (C K:Nat):RunS:=⟨⟨C,K,fun _ => 0,fun _ => -1,0⟩,0,fun _ => newA 0 (.look 0 0) 0 0 0 0 0,[],fun _ => 0,fun _ => 0,fun _ => 0,fun _ => -1,fun _ => ⟨0,0,0,0,0,0,0⟩⟩
def nilV (k:Nat):Value:=.slice none 0 0
theorem RunM.start {C K9:Nat} (hf:FdbAt w lo b fb F ⟨C,K9,fun _ => 0,fun _ => -1,0⟩) (ls:Nat→List OpN) (lv:Nat→Value) (ab:Nat→Nat) (Es:Nat→Nat→Prop) :
  RunM (w.alloc (.cells #[.pointer (some ⟨b,0,none⟩),.pointer (some ⟨fb,0,none⟩),.int .i64 (F.S:Nat),.int .i64 (F.B:Nat),.int .i64 (F.n:Nat),.int .i64 (F.tr:Nat),.slice none 0 0,.slice none 0 0,.slice none 0 0,.slice none 0 0,.slice none 0 0,.slice none 0 0,.slice none 0 0,.bool false] 68)) lo b fb w.heap.size (w.heap.size + 1) F (run0 C K9).m 0 (run0 C K9).A ab Es (fun _ _ => pl0) (7 + 0) (rowsS 0 ls lv ab (run0 C K9) nilV) nilV:=by
 have hrow:=World.rowIs_alloc w #[.pointer (some ⟨b,0,none⟩),.pointer (some ⟨fb,0,none⟩),.int .i64 (F.S:Nat),.int .i64 (F.B:Nat),.int .i64 (F.n:Nat),.int .i64 (F.tr:Nat),.slice none 0 0,.slice none 0 0,.slice none 0 0,.slice none 0 0,.slice none 0 0,.slice none 0 0,.slice none 0 0,.bool false] 68 (runF b fb F nilV) (fun i hi => by
  match i,hi with
  | 0,_ => rfl
  | 1,_ => rfl
  | 2,_ => rfl
  | 3,_ => rfl
  | 4,_ => rfl
  | 5,_ => rfl
  | 6,_ => rfl
  | 7,_ => rfl
  | 8,_ => rfl
  | 9,_ => rfl
  | 10,_ => rfl
  | 11,_ => rfl
  | 12,_ => rfl
  | 13,_ => rfl
  | _ + 14,hh => exact absurd hh (by simp))
 have hb:=(Below.refl w.heap.size w).alloc (Nat.le_refl _) (.cells #[.pointer (some ⟨b,0,none⟩),.pointer (some ⟨fb,0,none⟩),.int .i64 (F.S:Nat),.int .i64 (F.B:Nat),.int .i64 (F.n:Nat),.int .i64 (F.tr:Nat),.slice none 0 0,.slice none 0 0,.slice none 0 0,.slice none 0 0,.slice none 0 0,.slice none 0 0,.slice none 0 0,.bool false] 68)
 refine ⟨ActsAt.none_ (hf.below hb) _ _ _,hrow,⟨fun i hi => ?_,fun i j hi hj hne y hy => ?_⟩,fun i hi => absurd hi (by omega),hf.lt,Nat.lt_succ_self _,by simp⟩
 ·rcases (show i=0 ∨ i=1 ∨ i=2 ∨ i=3 ∨ i=4 ∨ i=5 ∨ i=6 by omega) with rfl | rfl | rfl | rfl | rfl | rfl | rfl <;> exact World.ownsRow_nil _ _ _ _
 ·exfalso
  rcases (show i=0 ∨ i=1 ∨ i=2 ∨ i=3 ∨ i=4 ∨ i=5 ∨ i=6 by omega) with rfl | rfl | rfl | rfl | rfl | rfl | rfl <;> cases hy
theorem made_rows (C K9 k j:Nat) (lj:List OpN) (hj:lj.length=j) (v' v0 v1 v2:Value) (i:Nat) (hi:i < 7 + (k + 1)) :
  rowsS (k + 1) (fun p => if p=k then lj else ls p) (fun p => if p=k then v' else lv p) ab (run0 C K9) (updW (updW (updW V 0 v0) 1 v1) 2 v2) i =
  updV (updV (updV (updV (rowsS k ls lv ab (run0 C K9) V) (7 + k) ⟨106,7,v',j,opc lj⟩) 0 ⟨66,1,v0,k + 1,(List.range k).map lv ++ [v']⟩) 1 ⟨3,1,v1,k + 1,kvI (fun _ => 0) k ++ [.int .i64 0]⟩) 2 ⟨3,1,v2,k + 1,kvI (fun _ => -1) k ++ [.int .i64 (-1)]⟩ i:=by
 have e1:kvI (fun _ => (0:Int)) (k + 1)=kvI (fun _ => 0) k ++ [.int .i64 0]:=by rw [← kvI_succ]; exact kvI_congr fun i hi => by unfold updI; split <;> rfl
 have e2:kvI (fun _ => (-1:Int)) (k + 1)=kvI (fun _ => -1) k ++ [.int .i64 (-1)]:=by rw [← kvI_succ]; exact kvI_congr fun i hi => by unfold updI; split <;> rfl
 have e3:(List.range (k + 1)).map (fun p => if p=k then v' else lv p)=(List.range k).map lv ++ [v']:=by
  rw [List.range_succ,List.map_append]
  congr 1
  ·apply List.map_congr_left
   intro i hi
   rw [if_neg (by have:=List.mem_range.1 hi; omega)]
  ·simp
 rw [← e1,← e2,← e3]
 rcases (show i=0 ∨ i=1 ∨ i=2 ∨ i=3 ∨ i=4 ∨ i=5 ∨ i=6 ∨ 7≤i by omega) with rfl | rfl | rfl | rfl | rfl | rfl | rfl | h7
 ·rfl
 ·rfl
 ·rfl
 ·unfold updV; rw [if_neg (by omega),if_neg (by omega),if_neg (by omega),if_neg (by omega)]; rfl
 ·unfold updV; rw [if_neg (by omega),if_neg (by omega),if_neg (by omega),if_neg (by omega)]; rfl
 ·unfold updV; rw [if_neg (by omega),if_neg (by omega),if_neg (by omega),if_neg (by omega)]; rfl
 ·unfold updV; rw [if_neg (by omega),if_neg (by omega),if_neg (by omega),if_neg (by omega)]; rfl
 ·obtain ⟨p,rfl⟩:∃ p,i=7 + p:=⟨i - 7,by omega⟩
  have hR:∀ (P:Nat) (ls:Nat→List OpN) (lv:Nat→Value) (V:Nat→Value),rowsS P ls lv ab (run0 C K9) V (7 + p)=⟨106,7,lv p,(ls p).length,opc (ls p)⟩:=fun P ls lv V => by
   unfold rowsS rowsF
   rw [if_neg (by omega),if_neg (by omega),if_neg (by omega),if_neg (by omega),if_neg (by omega),if_neg (by omega),if_neg (by omega),Nat.add_sub_cancel_left]
  unfold updV
  rw [if_neg (by omega),if_neg (by omega),if_neg (by omega),hR]
  by_cases e:p=k
  ·subst e
   rw [if_pos rfl,if_pos rfl,if_pos rfl,hj]
  ·rw [if_neg e,if_neg e,if_neg (by omega),hR]
end
end
end Go.Proofs.Ythloabdfkakehaa
