/-
  Words and contracts that a statement's proof rests on (MsC). No statement is proved here.
-/
import Derived.Test.YtpcapdpglpgcbaaGreatMsB
set_option linter.unusedVariables false
set_option linter.unusedSimpArgs false
namespace Go.Proofs.YtpcapdpglpgcbaaGreat
open Go.RowKit
structure WtAt (w:World) (base P k:Nat) (D:Nat→Nat→Prop) (Z:Nat) (R:Nat→Nat) (G:Nat→Value) (q2:Nat→Nat→Value) (qs:Nat→Nat→List Int):Prop where
 z:w.rowIs Z 87 P G
 lz:base≤Z
 row:∀ i,i < k→base≤R i∧G i=.slice (some ⟨R i,0,none⟩) P P∧w.rowIs (R i) 62 P (q2 i)∧∀ j,j < i→R j < R i
 own:∀ i t,i < k→t < P→D i t→w.ownsRow base 3 1 (q2 i t) (qs i t).length (kv .i64 (qs i t))
 ap:∀ i t i' t',i < k→t < P→D i t→i' < k→t' < P→D i' t'→¬ (i'=i∧t'=t)→∀ g,(q2 i t).ownBlock=some g→(q2 i' t').ownBlock ≠ some g
section
variable {w w':World} {base P k Z:Nat} {D D':Nat→Nat→Prop} {R:Nat→Nat} {G:Nat→Value} {q2:Nat→Nat→Value} {qs:Nat→Nat→List Int}
theorem WtAt.call (h:WtAt w base P k D Z R G q2 qs) (hb:Below w.heap.size w w'):WtAt w' base P k D Z R G q2 qs :=
 ⟨h.z.of_block (hb.block _ h.z.lt),h.lz,fun i hi => by
  obtain ⟨h1,h2,h3,h4⟩:=h.row i hi
  exact ⟨h1,h2,h3.of_block (hb.block _ h3.lt),h4⟩,fun i t hi ht hd => own_below (h.own i t hi ht hd) hb,h.ap⟩
theorem WtAt.of (h:WtAt w base P k D Z R G q2 qs) (hd:∀ i t,i < k→t < P→D' i t→D i t):WtAt w base P k D' Z R G q2 qs :=
 ⟨h.z,h.lz,h.row,fun i t hi ht h' => h.own i t hi ht (hd i t hi ht h'),fun i t i' t' hi ht h1 hi' ht' h2 => h.ap i t i' t' hi ht (hd i t hi ht h1) hi' ht' (hd i' t' hi' ht' h2)⟩
theorem WtAt.new (h:WtAt w base P k D Z R G q2 qs) (hk:k < P) (hb:base≤w.heap.size) {b:Nat} (hbb:b=w.heap.size) (hb1:Below w.heap.size w w') (ho:w'.rowIs b 62 P (fun _ => .slice none 0 0)) :
  WtAt (w'.setCell ⟨Z,k,none⟩ (.slice (some ⟨b,0,none⟩) P P)) base P (k + 1) (fun i t => i < k∧D i t) Z (fun i => if i=k then b else R i) (fun i => if i=k then .slice (some ⟨b,0,none⟩) P P else G i) (fun i => if i=k then fun _ => .slice none 0 0 else q2 i) qs:=by
 have hc:=h.call hb1
 have hRlt:∀ j,j < k→R j < w.heap.size:=fun j hj => (h.row j hj).2.2.1.lt
 refine ⟨hc.z.set k _,h.lz,fun i hi => ?_,fun i t hi ht hd => ?_,fun i t i' t' hi ht hd hi' ht' hd' => ?_⟩
 ·by_cases e:i=k
  ·subst e
   simp only [if_true]
   refine ⟨by omega,trivial,ho.of_block (heap_setCell_far _ _ _ (rowIs_ne ho hc.z (by decide))),fun j hj => ?_⟩
   rw [if_neg (by omega)]
   have:=hRlt j hj
   omega
  ·obtain ⟨h1,h2,h3,h4⟩:=hc.row i (by omega)
   simp only [if_neg e]
   refine ⟨h1,h2,h3.of_block (heap_setCell_far _ _ _ (rowIs_ne h3 hc.z (by decide))),fun j hj => ?_⟩
   rw [if_neg (by omega)]
   exact h4 j hj
 ·obtain ⟨hik,hd⟩:=hd
  have e:i ≠ k:=by omega
  simp only [if_neg e]
  have h5:=hc.own i t hik ht hd
  exact own_low' h5 fun g e2 => heap_setCell_far _ _ _ (fun e3 => rowIs_own_ne hc.z h5 (by decide) (by rw [e2,e3]))
 ·obtain ⟨hik,hd⟩:=hd
  obtain ⟨hik',hd'⟩:=hd'
  simp only [if_neg (show i ≠ k by omega),if_neg (show i' ≠ k by omega)]
  exact hc.ap i t i' t' hik ht hd hik' ht' hd'
theorem WtAt.put (h:WtAt w base P (k + 1) D Z R G q2 qs) {j:Nat} (hj:j < P) {u:Value} (ho:w.ownsRow base 3 1 u (qs k j).length (kv .i64 (qs k j))) (hf:∀ i t,i < k + 1→t < P→D i t→∀ g,(q2 i t).ownBlock=some g→u.ownBlock ≠ some g) (hd:∀ i t,i < k + 1→t < P→D' i t→D i t ∨ (i=k∧t=j)) :
  WtAt (w.setCell ⟨R k,j,none⟩ u) base P (k + 1) D' Z R G (fun i => if i=k then fun t => if t=j then u else q2 k t else q2 i) qs:=by
 obtain ⟨k1,k2,k3,k4⟩:=h.row k (by omega)
 have hne:∀ i,i < k + 1→i ≠ k→R i ≠ R k:=fun i hi e => by
  have:=k4 i (by omega)
  omega
 refine ⟨h.z.of_block (heap_setCell_far _ _ _ (rowIs_ne h.z k3 (by decide))),h.lz,fun i hi => ?_,fun i t hi ht hd' => ?_,fun i t i' t' hi ht h1 hi' ht' h2 hne' => ?_⟩
 ·by_cases e:i=k
  ·subst e
   simp only [if_true]
   exact ⟨k1,k2,k3.set j u,k4⟩
  ·obtain ⟨h1,h2,h3,h4⟩:=h.row i hi
   simp only [if_neg e]
   exact ⟨h1,h2,h3.of_block (heap_setCell_far _ _ _ (by show R i ≠ R k; exact hne i hi e)),h4⟩
 ·have hlow:∀ {v:Value} {n:Nat} {xs:List Value},w.ownsRow base 3 1 v n xs→(w.setCell ⟨R k,j,none⟩ u).ownsRow base 3 1 v n xs:=fun h5 => own_low' h5 fun g e2 => heap_setCell_far _ _ _ (fun e3 => rowIs_own_ne k3 h5 (by decide) (by rw [e2,e3]))
  by_cases e:i=k
  ·subst e
   simp only [if_true]
   by_cases e2:t=j
   ·subst e2
    simp only [if_true]
    exact hlow ho
   ·rw [if_neg e2]
    rcases hd i t hi ht hd' with h6 | h6
    ·exact hlow (h.own i t hi ht h6)
    ·exact absurd h6.2 e2
  ·simp only [if_neg e]
   rcases hd i t hi ht hd' with h6 | h6
   ·exact hlow (h.own i t hi ht h6)
   ·exact absurd h6.1 e
 ·have hval:∀ i t,(if i=k then fun t => if t=j then u else q2 k t else q2 i) t=if i=k∧t=j then u else q2 i t:=fun i t => by
   by_cases e:i=k
   ·subst e
    by_cases e2:t=j
    ·simp [e2]
    ·simp [e2]
   ·simp [e]
  show ∀ g,((if i=k then fun t => if t=j then u else q2 k t else q2 i) t).ownBlock=some g→((if i'=k then fun t => if t=j then u else q2 k t else q2 i') t').ownBlock ≠ some g
  rw [hval,hval]
  intro g
  by_cases e:i=k∧t=j
  ·rw [if_pos e]
   by_cases e':i'=k∧t'=j
   ·exact absurd ⟨e'.1.trans e.1.symm,e'.2.trans e.2.symm⟩ hne'
   ·rw [if_neg e']
    intro q1 q2'
    rcases hd i' t' hi' ht' h2 with h6 | h6
    ·exact hf i' t' hi' ht' h6 g q2' q1
    ·exact e' h6
  ·rw [if_neg e]
   rcases hd i t hi ht h1 with h6 | h6
   ·by_cases e':i'=k∧t'=j
    ·rw [if_pos e']
     exact hf i t hi ht h6 g
    ·rw [if_neg e']
     rcases hd i' t' hi' ht' h2 with h7 | h7
     ·exact h.ap i t i' t' hi ht h6 hi' ht' h7 hne' g
     ·exact absurd h7 e'
   ·exact absurd h6 e
end
section
variable {E:Nat→Prop} {w:World} {L A S1 Q bp bq P r S B n nv:Nat} {uv:Value} {lv:List Vl} {st:Nat→Int × Nat} {g:Nat→Nat→Pl} {G:Nat→Value} {R:Nat→Nat} {qv:Nat→Nat→Value} {qs:Nat→Nat→List Int}
set_option maxRecDepth 20000 in
set_option maxHeartbeats 6400000 in
theorem model_waiting (h:MdAll E w L A S1 Q bp bq P r S B n nv uv lv st g G R qv qs) (hP:P≤64) (hlen:∀ i j,i < P→j < P→(qs i j).length≤1000000) :
  Calls Tryz.prog 68 #[.pointer (some ⟨A,0,none⟩)] w fun e w' => ∃ Z R2 G2 q2,e=.returned (.slice (some ⟨Z,0,none⟩) P P)∧WtAt w' w.heap.size P P (fun _ _ => True) Z R2 G2 q2 qs∧Below w.heap.size w w':=by
 have HQU:Hid (∀ w',Below w.heap.size w w'→∀ i j:Nat,i < P→j < P→Calls Tryz.prog 15 #[.pointer (some ⟨A,0,none⟩),.int .i64 (i:Nat),.int .i64 (j:Nat)] w' fun e w2 => ∃ u,e=.returned u∧w2.ownsRow w'.heap.size 3 1 u (qs i j).length (kv .i64 (qs i j))∧Below w'.heap.size w' w2):=fun w' hb i j hi hj => model_Queue (h.call hb).md (h.call hb).qu i j hi hj (hlen i j hi hj)
 have HA:Hid (∀ w',Below w.heap.size w w'→w'.cell? ⟨A,4,none⟩=some (.slice (some ⟨Q,0,none⟩) P P)∧∀ k,k < P→w'.cell? ⟨Q,k,none⟩=some (.slice (some ⟨R k,0,none⟩) P (capV (G k)))):=fun w' hb => by
  have hm:=(h.call hb).md
  have hq:=(h.call hb).qu
  exact ⟨hm.cells.cell (by omega),fun k hk => (hm.queues.cell hk).trans (congrArg some (hq.at_ k hk))⟩
 have hk2:=fun W => run_mkFull (P:=Tryz.prog) W stQus P (by omega)
 have hk3:=fun W => run_mkFull (P:=Tryz.prog) W stQu P (by omega)
 have c4:=(HA.out w (Below.refl _ _)).1
 obtain ⟨Z,hZ⟩:∃ z,z=w.heap.size:=⟨_,rfl⟩
 obtain ⟨w1,hw1⟩:∃ z,z=w.alloc (.cells (mkC (.slice none 0 0) 1 P) 87):=⟨_,rfl⟩
 have HB1:Hid (Below w.heap.size w w1):=by rw [hw1]; exact (Below.refl _ _).alloc (Nat.le_refl _) _
 have HST:Hid (WtAt w1 w.heap.size P 0 (fun _ _ => True) Z (fun _ => 0) (fun _ => .slice none 0 0) (fun _ _ => .slice none 0 0) qs):=⟨by rw [hw1]; exact rowIs_mk rfl hZ.symm,by omega,fun i hi => by omega,fun i t hi => by omega,fun i t i' t' hi => by omega⟩
 have c4':=fun o => (HA.out (w.alloc o) ((Below.refl _ _).alloc (Nat.le_refl _) _)).1
 have hZ0:w.heap.size≤Z:=by omega
 clear h hlen
 go_enter Tryz.func68,Tryz.ntmps68
 go_wp2
 rw [← hw1,← hZ]
 clear hw1 hk2 c4' c4
 have HZZ:=Lib.hid hZ
 clear hZ
 go_loopw [18] (fun a wr => ∃ (k:Nat) (R2:Nat→Nat) (G2:Nat→Value) (q2:Nat→Nat→Value) (wx:World),wx=wr∧k≤P∧a=.int .i64 k∧Hid (WtAt wr w.heap.size P k (fun _ _ => True) Z R2 G2 q2 qs∧Below w.heap.size w wr)) (fun a _ => P - (intOf a).toNat)
 case atStart => exact ⟨0,_,_,_,_,rfl,by omega,rfl,Lib.hid ⟨HST.out,HB1.out⟩⟩
 case round =>
  obtain ⟨k,R2,G2,q2,wr,rfl,hk,rfl,HI⟩:=hrel
  by_cases hlt:k < P
  ·have d1:decide (k < P)=true:=decide_eq_true hlt
   have cq:=(HA.out _ HI.out.2).2 k hlt
   have ca:=fun o => (HI.out.1.call ((Below.refl wr.heap.size wr).alloc (Nat.le_refl _) o)).z.cell hlt
   have fa:=fun o => (HI.out.1.call ((Below.refl wr.heap.size wr).alloc (Nat.le_refl _) o)).z.frozen k
   go_wp2
   obtain ⟨b,hb⟩:∃ z,z=wr.heap.size:=⟨_,rfl⟩
   obtain ⟨w5,hw5⟩:∃ z,z=(wr.alloc (.cells (mkC (.slice none 0 0) 1 P) 62)).setCell ⟨Z,k,none⟩ (.slice (some ⟨b,0,none⟩) P P):=⟨_,rfl⟩
   have HN:Hid (WtAt w5 w.heap.size P (k + 1) (fun i t => i < k∧True) Z (fun i => if i=k then b else R2 i) (fun i => if i=k then .slice (some ⟨b,0,none⟩) P P else G2 i) (fun i => if i=k then fun _ => .slice none 0 0 else q2 i) qs):=by
    rw [hw5]
    exact HI.out.1.new hlt HI.out.2.size hb ((Below.refl _ _).alloc (Nat.le_refl _) _) (rowIs_mk rfl hb.symm)
   have HB5:Hid (Below w.heap.size w w5):=by rw [hw5]; exact (HI.out.2.alloc HI.out.2.size _).setCell hZ0 _
   rw [← hb,← hw5]
   clear hw5 hb cq ca fa HI
   obtain ⟨R3,hR3⟩:∃ z,z=fun i => if i=k then b else R2 i:=⟨_,rfl⟩
   obtain ⟨G3,hG3⟩:∃ z,z=fun i => if i=k then Value.slice (some ⟨b,0,none⟩) P P else G2 i:=⟨_,rfl⟩
   rw [← hR3,← hG3] at HN
   have hRk:R3 k=b:=by rw [hR3]; exact if_pos rfl
   have HRk:=Lib.hid hRk
   clear hR3 hG3 hRk
   go_loopw [31] (fun a wr2 => ∃ (j:Nat) (q3:Nat→Nat→Value) (wx:World),wx=wr2∧j≤P∧a=.int .i64 j∧Hid (WtAt wr2 w.heap.size P (k + 1) (fun i t => i < k ∨ t < j) Z R3 G3 q3 qs∧Below w.heap.size w wr2)) (fun a _ => P - (intOf a).toNat)
   case atStart => exact ⟨0,_,_,rfl,by omega,rfl,Lib.hid ⟨HN.out.of (fun i t _ _ h => by rcases h with h | h; exact ⟨h,trivial⟩; omega),HB5.out⟩⟩
   case round =>
    obtain ⟨j,q3,wq,rfl,hj,rfl,HJ⟩:=hrel
    by_cases hlt2:j < P
    ·have d2:decide (j < P)=true:=decide_eq_true hlt2
     go_wp2_with fail
     have zk:wq.cell? ⟨Z,k,none⟩=some (.slice (some ⟨b,0,none⟩) P P):=(HJ.out.1.z.cell hlt).trans (by rw [(HJ.out.1.row k (by omega)).2.1,HRk.out])
     refine wp_region_held_drew (S:=fun w' => w'.cell? ⟨Z,k,none⟩=some (.slice (some ⟨b,0,none⟩) P P)) (by kernel_rfl) ?_ (fun hHeld => ?_)
     ·exact zk
     obtain ⟨v0,hv0⟩:∃ w',w'=wq.drew:=⟨_,rfl⟩
     have hvb:Below wq.heap.size wq v0:=by rw [hv0]; exact (Below.refl _ _).drew
     have HVZ:Hid (v0.heap.size=wq.heap.size):=by show _=_; rw [hv0]; rfl
     rw [← hv0] at hHeld ⊢
     clear hv0
     refine tkR 0 rfl ?_
     refine tkR 1 rfl ?_
     refine tkR 2 rfl ?_
     refine tkR 3 rfl ?_
     refine tkR 4 rfl ?_
     refine tkR 5 rfl ?_
     refine tkR 6 rfl ?_
     refine tkR 7 rfl ?_
     refine clR 8 rfl fun K hK => ?_
     go_simp
     refine Calls.mono (HQU.out _ (HJ.out.2.trans (hvb.mono HJ.out.2.size)) k j hlt hlt2) ?_
     rintro e w9 ⟨u,rfl,ho9,hb9⟩
     obtain ⟨Au,cu,hx9,_,_⟩:=(Sl.of_own ho9).form
     subst hx9
     have HV9:Hid (Below wq.heap.size wq w9):=hvb.trans (hb9.mono (by rw [HVZ.out]; exact Nat.le_refl _))
     have HW9:=Lib.hid (HJ.out.1.call HV9.out)
     have HO9:=Lib.hid (own_base ho9 (by rw [HVZ.out]; exact HJ.out.2.size))
     have HF9:Hid (∀ g,(Value.slice Au (qs k j).length cu).ownBlock=some g→wq.heap.size≤g):=fun g hg => by rw [← HVZ.out]; exact (ho9.lt g hg).1
     have y1:w9.cell? ⟨b,j,none⟩=some (q3 k j):=by rw [← HRk.out]; exact (HW9.out.row k (by omega)).2.2.1.cell hlt2
     have y2:w9.frozen? ⟨b,j,none⟩=false:=by rw [← HRk.out]; exact (HW9.out.row k (by omega)).2.2.1.frozen j
     have z9:w9.cell? ⟨Z,k,none⟩=some (.slice (some ⟨b,0,none⟩) P P):=(HW9.out.z.cell hlt).trans (by rw [(HW9.out.row k (by omega)).2.1,HRk.out])
     have hZb:Z ≠ b:=by rw [← HRk.out]; exact rowIs_ne HW9.out.z (HW9.out.row k (by omega)).2.2.1 (by decide)
     have hZ9:Z < w9.heap.size:=HW9.out.z.lt
     clear ho9 hb9
     refine hK.out _ _ ?_ (fun hHeld => ?_)
     ·(try dsimp only)
      exact z9
     clear hK K
     refine tkR 9 rfl ?_
     refine clR 10 rfl fun K hK => ?_
     go_simp
     refine hK.out _ _ ?_ (fun hHeld => ?_)
     ·(try dsimp only)
      exact ((But.set j _).cell (show Z < w9.heap.size by omega) hZb).trans z9
     clear hK K
     (try simp only [Act.put,sqA,sqB,sqC])
     refine wpAnyH_done (by kernel_rfl) ?_ _
     have HW':Hid (WtAt (w9.setCell ⟨b,j,none⟩ (.slice Au (qs k j).length cu)) w.heap.size P (k + 1) (fun i t => i < k ∨ t < j + 1) Z R3 G3 (fun i => if i=k then fun t => if t=j then .slice Au (qs k j).length cu else q3 k t else q3 i) qs):=by
      have h9:=HW9.out.put (D':=fun i t => i < k ∨ t < j + 1) hlt2 HO9.out (fun i t hi ht hd g h1 h2 => by have h3:=HF9.out g h2; have h4:=(HJ.out.1.own i t hi ht hd).lt g h1; omega) (fun i t hi _ hd => by
       rcases hd with hd | hd
       ·exact .inl (.inl hd)
       ·rcases Nat.lt_or_ge t j with h6 | h6
        ·exact .inl (.inr h6)
        ·rcases Nat.lt_or_ge i k with h7 | h7
         ·exact .inl (.inl h7)
         ·exact .inr ⟨by omega,by omega⟩)
      rw [HRk.out] at h9
      exact h9
     have HB':Hid (Below w.heap.size w (w9.setCell ⟨b,j,none⟩ (.slice Au (qs k j).length cu))):=(HJ.out.2.trans (HV9.out.mono HJ.out.2.size)).setCell (by have:=(HW9.out.row k (by omega)).1; rw [HRk.out] at this; exact this) _
     clear hHeld y1 y2 z9 hvb zk
     go_wp2
     go_roundw
     case rel => exact ⟨j + 1,_,_,rfl,by omega,by go_num,Lib.hid ⟨HW'.out,HB'.out⟩⟩
     case measure => simp [intOf]; omega
    ·have d2:decide (j < P)=false:=decide_eq_false hlt2
     obtain rfl:j=P:=by omega
     go_wp2
     go_roundw
     case rel => exact ⟨k + 1,R3,G3,q3,_,rfl,by omega,by go_num,Lib.hid ⟨HJ.out.1.of (fun i t _ ht _ => .inr ht),HJ.out.2⟩⟩
     case measure => simp [intOf]; omega
  ·have d1:decide (k < P)=false:=decide_eq_false hlt
   obtain rfl:k=P:=by omega
   go_wp2
   go_ret
   exact ⟨Z,R2,G2,q2,by first | rfl | (simp; done),HI.out.1,HI.out.2⟩
end
end Go.Proofs.YtpcapdpglpgcbaaGreat
