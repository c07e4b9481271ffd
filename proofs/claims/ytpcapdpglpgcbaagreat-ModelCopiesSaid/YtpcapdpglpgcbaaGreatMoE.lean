/-
  Words and contracts that a statement's proof rests on (MoE, MrD, MoP). No statement is proved here.
-/
import Derived.Test.YtpcapdpglpgcbaaGreatKeep
import Derived.Test.YtpcapdpglpgcbaaGreatMoG
import Derived.Test.YtpcapdpglpgcbaaGreatMoR
import Derived.Test.YtpcapdpglpgcbaaGreatMrU
set_option linter.unusedVariables false
set_option linter.unusedSimpArgs false
namespace Go.Proofs.YtpcapdpglpgcbaaGreat
section
open Go.RowKit
set_option maxHeartbeats 800000 in
theorem model_may0 {w:World} {L A S1 Q bp:Nat} {uv:Value} {P r nv:Nat} {lv:List Vl} {st:Nat→Int × Nat} {G:Nat→Value} (h:MdAt w L A S1 Q uv (.pointer (some ⟨bp,0,none⟩)) P r nv lv st G) (po tt vi sx:Int) (kv km me un nw li sh bu id:Int):Calls Tryz.prog 29 #[.pointer (some ⟨A,0,none⟩),opV 0 po tt vi sx kv km me un nw li sh bu id] w (Says (.bool (portB P po)) w):=by
 have HH:=Lib.hid h
 have HP:=Lib.hid fun w' (hb:Below w.heap.size w w') => model_isPort (h.call hb) po
 clear h
 unfold opV
 go_enter Tryz.func29,Tryz.ntmps29
 go_wp2_with fail
 refine (HP.out _ ((Below.refl _ _).alloc (Nat.le_refl _) _)).mono ?_
 rintro e w1 ⟨rfl,hb⟩
 go_wp2
 go_ret
 exact ⟨rfl,((Below.refl _ _).alloc (Nat.le_refl _) _).trans (hb.mono (by simp))⟩
set_option maxHeartbeats 800000 in
theorem model_may2 {w:World} {L A S1 Q bp:Nat} {uv:Value} {P r nv:Nat} {lv:List Vl} {st:Nat→Int × Nat} {G:Nat→Value} (h:MdAt w L A S1 Q uv (.pointer (some ⟨bp,0,none⟩)) P r nv lv st G) (po tt vi sx:Int) (kv km me un nw li sh bu id:Int):Calls Tryz.prog 29 #[.pointer (some ⟨A,0,none⟩),opV 2 po tt vi sx kv km me un nw li sh bu id] w (Says (.bool (portB P po)) w):=by
 have HH:=Lib.hid h
 have HP:=Lib.hid fun w' (hb:Below w.heap.size w w') => model_isPort (h.call hb) po
 clear h
 unfold opV
 go_enter Tryz.func29,Tryz.ntmps29
 go_wp2_with fail
 refine (HP.out _ ((Below.refl _ _).alloc (Nat.le_refl _) _)).mono ?_
 rintro e w1 ⟨rfl,hb⟩
 go_wp2
 go_ret
 exact ⟨rfl,((Below.refl _ _).alloc (Nat.le_refl _) _).trans (hb.mono (by simp))⟩
set_option maxHeartbeats 800000 in
theorem model_may4 {w:World} {L A S1 Q bp:Nat} {uv:Value} {P r nv:Nat} {lv:List Vl} {st:Nat→Int × Nat} {G:Nat→Value} (h:MdAt w L A S1 Q uv (.pointer (some ⟨bp,0,none⟩)) P r nv lv st G) (po tt vi sx:Int) (kv km me un nw li sh bu id:Int):Calls Tryz.prog 29 #[.pointer (some ⟨A,0,none⟩),opV 4 po tt vi sx kv km me un nw li sh bu id] w (Says (.bool (portB P po)) w):=by
 have HH:=Lib.hid h
 have HP:=Lib.hid fun w' (hb:Below w.heap.size w w') => model_isPort (h.call hb) po
 clear h
 unfold opV
 go_enter Tryz.func29,Tryz.ntmps29
 go_wp2_with fail
 refine (HP.out _ ((Below.refl _ _).alloc (Nat.le_refl _) _)).mono ?_
 rintro e w1 ⟨rfl,hb⟩
 go_wp2
 go_ret
 exact ⟨rfl,((Below.refl _ _).alloc (Nat.le_refl _) _).trans (hb.mono (by simp))⟩
set_option maxHeartbeats 800000 in
theorem model_may1 {w:World} {L A S1 Q bp:Nat} {uv:Value} {P r nv:Nat} {lv:List Vl} {st:Nat→Int × Nat} {G:Nat→Value} (h:MdAt w L A S1 Q uv (.pointer (some ⟨bp,0,none⟩)) P r nv lv st G) (po tt vi sx:Int) (kv km me un nw li sh bu id:Int):Calls Tryz.prog 29 #[.pointer (some ⟨A,0,none⟩),opV 1 po tt vi sx kv km me un nw li sh bu id] w (Says (.bool true) w):=by
 clear h
 unfold opV
 go_enter Tryz.func29,Tryz.ntmps29
 go_wp2_with fail
 go_ret
 exact ⟨rfl,(Below.refl _ _).alloc (Nat.le_refl _) _⟩
set_option maxHeartbeats 800000 in
theorem model_may3 {w:World} {L A S1 Q bp:Nat} {uv:Value} {P r nv:Nat} {lv:List Vl} {st:Nat→Int × Nat} {G:Nat→Value} (h:MdAt w L A S1 Q uv (.pointer (some ⟨bp,0,none⟩)) P r nv lv st G) (po tt vi sx:Int) (kv km me un nw li sh bu id:Int):Calls Tryz.prog 29 #[.pointer (some ⟨A,0,none⟩),opV 3 po tt vi sx kv km me un nw li sh bu id] w (Says (.bool true) w):=by
 clear h
 unfold opV
 go_enter Tryz.func29,Tryz.ntmps29
 go_wp2_with fail
 go_ret
 exact ⟨rfl,(Below.refl _ _).alloc (Nat.le_refl _) _⟩
set_option maxHeartbeats 800000 in
theorem model_may5 {w:World} {L A S1 Q bp:Nat} {uv:Value} {P r nv:Nat} {lv:List Vl} {st:Nat→Int × Nat} {G:Nat→Value} (h:MdAt w L A S1 Q uv (.pointer (some ⟨bp,0,none⟩)) P r nv lv st G) (po tt vi sx:Int) (kv km me un nw li sh bu id:Int):Calls Tryz.prog 29 #[.pointer (some ⟨A,0,none⟩),opV 5 po tt vi sx kv km me un nw li sh bu id] w (Says (.bool true) w):=by
 clear h
 unfold opV
 go_enter Tryz.func29,Tryz.ntmps29
 go_wp2_with fail
 go_ret
 exact ⟨rfl,(Below.refl _ _).alloc (Nat.le_refl _) _⟩
set_option maxHeartbeats 800000 in
theorem model_may6 {w:World} {L A S1 Q bp:Nat} {uv:Value} {P r nv:Nat} {lv:List Vl} {st:Nat→Int × Nat} {G:Nat→Value} (h:MdAt w L A S1 Q uv (.pointer (some ⟨bp,0,none⟩)) P r nv lv st G) (po tt vi sx:Int) (kv km me un nw li sh bu id:Int):Calls Tryz.prog 29 #[.pointer (some ⟨A,0,none⟩),opV 6 po tt vi sx kv km me un nw li sh bu id] w (Says (.bool true) w):=by
 clear h
 unfold opV
 go_enter Tryz.func29,Tryz.ntmps29
 go_wp2_with fail
 go_ret
 exact ⟨rfl,(Below.refl _ _).alloc (Nat.le_refl _) _⟩
set_option maxHeartbeats 800000 in
theorem model_may7 {w:World} {L A S1 Q bp:Nat} {uv:Value} {P r nv:Nat} {lv:List Vl} {st:Nat→Int × Nat} {G:Nat→Value} (h:MdAt w L A S1 Q uv (.pointer (some ⟨bp,0,none⟩)) P r nv lv st G) (po tt vi sx:Int) (kv km me un nw li sh bu id:Int):Calls Tryz.prog 29 #[.pointer (some ⟨A,0,none⟩),opV 7 po tt vi sx kv km me un nw li sh bu id] w (Says (.bool true) w):=by
 clear h
 unfold opV
 go_enter Tryz.func29,Tryz.ntmps29
 go_wp2_with fail
 go_ret
 exact ⟨rfl,(Below.refl _ _).alloc (Nat.le_refl _) _⟩
set_option maxHeartbeats 800000 in
theorem model_may9 {w:World} {L A S1 Q bp:Nat} {uv:Value} {P r nv:Nat} {lv:List Vl} {st:Nat→Int × Nat} {G:Nat→Value} (h:MdAt w L A S1 Q uv (.pointer (some ⟨bp,0,none⟩)) P r nv lv st G) (po tt vi sx:Int) (kv km me un nw li sh bu id:Int):Calls Tryz.prog 29 #[.pointer (some ⟨A,0,none⟩),opV 9 po tt vi sx kv km me un nw li sh bu id] w (Says (.bool true) w):=by
 clear h
 unfold opV
 go_enter Tryz.func29,Tryz.ntmps29
 go_wp2_with fail
 go_ret
 exact ⟨rfl,(Below.refl _ _).alloc (Nat.le_refl _) _⟩
set_option maxHeartbeats 1600000 in
theorem model_may10 {w:World} {L A S1 Q bp:Nat} {uv:Value} {P r nv:Nat} {lv:List Vl} {st:Nat→Int × Nat} {G:Nat→Value} (h:MdAt w L A S1 Q uv (.pointer (some ⟨bp,0,none⟩)) P r nv lv st G) (po tt vi sx:Int) (kv km me un nw li sh bu id:Int) (h1:portB P po=true) (h2:portB P tt=true):Calls Tryz.prog 29 #[.pointer (some ⟨A,0,none⟩),opV 10 po tt vi sx kv km me un nw li sh bu id] w (Says (.bool true) w):=by
 have hp1:=fun w' (hb:Below w.heap.size w w') => model_isPort (h.call hb) po
 have hp2:=fun w' (hb:Below w.heap.size w w') => model_isPort (h.call hb) tt
 rw [h1] at hp1
 rw [h2] at hp2
 have HP1:=Lib.hid hp1
 have HP2:=Lib.hid hp2
 clear h h1 h2 hp1 hp2
 unfold opV
 go_enter Tryz.func29,Tryz.ntmps29
 go_wp2_with fail
 refine (HP1.out _ ((Below.refl _ _).alloc (Nat.le_refl _) _)).mono ?_
 rintro e w1 ⟨rfl,hb⟩
 have HB1:Hid (Below w.heap.size w w1):=((Below.refl _ _).alloc (Nat.le_refl _) _).trans (hb.mono (by simp))
 have c2:w1.cell? ⟨w.heap.size,2,none⟩=some (.int .i64 tt):=by
  rw [hb.cell (by show w.heap.size < _; simp)]
  simp [go_sem]
 clear hb
 go_wp2_with fail
 refine (HP2.out _ HB1.out).mono ?_
 rintro e w2 ⟨rfl,hb⟩
 have HB2:Hid (Below w.heap.size w w2):=HB1.out.trans (hb.mono HB1.out.size)
 clear hb c2
 go_wp2
 go_ret
 exact ⟨by first | rfl | (simp; done),HB2.out⟩
set_option maxHeartbeats 1600000 in
theorem model_may11 {w:World} {L A S1 Q bp:Nat} {uv:Value} {P r nv:Nat} {lv:List Vl} {st:Nat→Int × Nat} {G:Nat→Value} (h:MdAt w L A S1 Q uv (.pointer (some ⟨bp,0,none⟩)) P r nv lv st G) (po tt vi sx:Int) (kv km me un nw li sh bu id:Int) (h1:portB P po=true) (h2:portB P tt=true):Calls Tryz.prog 29 #[.pointer (some ⟨A,0,none⟩),opV 11 po tt vi sx kv km me un nw li sh bu id] w (Says (.bool true) w):=by
 have hp1:=fun w' (hb:Below w.heap.size w w') => model_isPort (h.call hb) po
 have hp2:=fun w' (hb:Below w.heap.size w w') => model_isPort (h.call hb) tt
 rw [h1] at hp1
 rw [h2] at hp2
 have HP1:=Lib.hid hp1
 have HP2:=Lib.hid hp2
 clear h h1 h2 hp1 hp2
 unfold opV
 go_enter Tryz.func29,Tryz.ntmps29
 go_wp2_with fail
 refine (HP1.out _ ((Below.refl _ _).alloc (Nat.le_refl _) _)).mono ?_
 rintro e w1 ⟨rfl,hb⟩
 have HB1:Hid (Below w.heap.size w w1):=((Below.refl _ _).alloc (Nat.le_refl _) _).trans (hb.mono (by simp))
 have c2:w1.cell? ⟨w.heap.size,2,none⟩=some (.int .i64 tt):=by
  rw [hb.cell (by show w.heap.size < _; simp)]
  simp [go_sem]
 clear hb
 go_wp2_with fail
 refine (HP2.out _ HB1.out).mono ?_
 rintro e w2 ⟨rfl,hb⟩
 have HB2:Hid (Below w.heap.size w w2):=HB1.out.trans (hb.mono HB1.out.size)
 clear hb c2
 go_wp2
 go_ret
 exact ⟨by first | rfl | (simp; done),HB2.out⟩
theorem portB_in {P p:Nat} (h:p < P):portB P (p:Int)=true:=by
 unfold portB
 simp
 omega
end
section
open Go.RowKit
set_option maxHeartbeats 1600000 in
theorem ref17_has {E:Nat→Prop} {w:World} {L A S1 Q cQ:Nat} {X:Nat→Value} {bp bq P r S B n nv:Nat} {uv:Value} {lv:List Vl} {st:Nat→Int × Nat} {g:Nat→Nat→Pl} {G:Nat→Value} {R:Nat→Nat} {qv:Nat→Nat→Value} {qs:Nat→Nat→List Int} (h:RfAll E w L A S1 Q cQ X bp bq P r S B n nv uv lv st g G R qv qs) (p:Int):Calls Tryz.prog 44 #[.pointer (some ⟨A,0,none⟩),.int .i64 p] w fun e w' => e=.returned (.bool (portB P p))∧w=w':=by
 have c0:w.cell? ⟨A,0,none⟩=some (.int .i64 (P:Nat)):=(h.md.cells.cell (by omega)).trans (congrArg some h.md.x0)
 clear h
 by_cases h1:0≤p
 ·have d1:decide (0≤p)=true:=decide_eq_true h1
  have d1':decide (p ≥ 0)=true:=decide_eq_true h1
  obtain ⟨z,hz⟩:∃ z,z=decide (p < (P:Int)):=⟨_,rfl⟩
  have hpb:portB P p=z:=by unfold portB; rw [d1,Bool.true_and,hz]
  rw [hpb]
  have HZ:=Lib.hid hz
  clear hpb hz
  go_enter Tryz.func44,Tryz.ntmps44
  go_wp2_with fail
  go_ret
  exact ⟨by rw [HZ.out] <;> first | rfl | (simp; done),rfl⟩
 ·have d1:decide (0≤p)=false:=decide_eq_false h1
  have d1':decide (p ≥ 0)=false:=decide_eq_false h1
  have hpb:portB P p=false:=by unfold portB; rw [d1]; rfl
  rw [hpb]
  clear hpb
  go_enter Tryz.func44,Tryz.ntmps44
  go_wp2_with fail
  go_ret
  exact ⟨by first | rfl | (simp; done),rfl⟩
set_option maxRecDepth 20000 in
set_option maxHeartbeats 6400000 in
theorem ref17_Do0 {E:Nat→Prop} {w:World} {L A S1 Q cQ:Nat} {X:Nat→Value} {bp bq P r S B n nv:Nat} {uv:Value} {lv:List Vl} {st:Nat→Int × Nat} {g:Nat→Nat→Pl} {G:Nat→Value} {R:Nat→Nat} {qv:Nat→Nat→Value} {qs:Nat→Nat→List Int} (h:RfAll E w L A S1 Q cQ X bp bq P r S B n nv uv lv st g G R qv qs) (p:Nat) (hp:p < P) (tt vi sx kv km me un nw li sh bu id:Int):Calls Tryz.prog 12 #[.pointer (some ⟨A,0,none⟩),opV 0 ((p:Nat)) tt vi sx kv km me un nw li sh bu id] w (Says (.int .i64 (st p).1) w):=by
 have d1:decide (p < P)=true:=decide_eq_true hp
 have hfd:=fun w' (hb:Below w.heap.size w w') => ref3_Find (Sl.of_own (h.call hb).md.vlans) (Nat.le_refl _) vi
 have HFD:=Lib.hid hfd
 obtain ⟨w0,hw0⟩:∃ z,z=(w.alloc (.cells #[.int .i64 (0),.int .i64 ((p:Nat)),.int .i64 (tt),.int .i64 (vi),.int .i64 (sx),.int .i64 (kv),.int .u64 (km),.int .u64 (me),.int .u64 (un),.int .u32 (nw),.int .u32 (li),.int .i64 (sh),.int .i64 (bu),.int .i64 (id)] 56)):=⟨_,rfl⟩
 have HB0:Hid (Below w.heap.size w w0):=by rw [hw0]; exact (Below.refl _ _).alloc (Nat.le_refl _) _
 have HBOX:=Lib.hid (box14 hw0)
 have hwz:w.heap.size < w0.heap.size:=by rw [hw0]; simp
 have hp0:=fun w' (hb:Below w.heap.size w w') => ref17_has (h.call hb) ((p:Nat))
 rw [portB_in hp] at hp0
 have HP0:=Lib.hid hp0
 clear hp0
 have HH:=Lib.hid h
 have hAz:A < w.heap.size:=h.md.cells.lt
 clear h hfd
 unfold opV
 go_enter Tryz.func12,Tryz.ntmps12
 go_wp2_with (first
  | (go_at_call 44; (with_reducible refine Calls.mono (HP0.out _ ((Below.refl _ _).alloc (Nat.le_refl _) _)) ?_); rintro e _ ⟨rfl,rfl⟩)
  | fail)
 rw [← hw0]
 clear hw0
 obtain ⟨q0,q1,q2,q3,q4,q5,q6,q7,q8,q9,q10,q11,q12,q13⟩:=HBOX.out _ (Below.refl _ _)
 have c11:w0.cell? ⟨A,11,none⟩=some uv:=(HH.out.call HB0.out).md.cells.cell (by omega)
 refine wp_region_held_drew (S:=fun w' => w'.cell? ⟨A,11,none⟩=some uv∧w'.cell? ⟨w.heap.size,3,none⟩=some (.int .i64 (vi))) (by kernel_rfl) ?_ (fun hHeld => ?_)
 ·exact ⟨c11,q3⟩
 obtain ⟨v0,hv0⟩:∃ w',w'=w0.drew:=⟨_,rfl⟩
 have hvb:Below w0.heap.size w0 v0:=by rw [hv0]; exact (Below.refl _ _).drew
 have HVZ:Hid (v0.heap.size=w0.heap.size):=by show _=_; rw [hv0]; rfl
 rw [← hv0] at hHeld ⊢
 clear hv0
 refine tkR 0 rfl ?_
 refine tkR 1 rfl ?_
 refine tkR 2 rfl ?_
 refine tkR 3 rfl ?_
 refine tkR 4 rfl ?_
 refine tkR 5 rfl ?_
 refine clR 6 rfl fun K hK => ?_
 go_simp
 refine Calls.mono (HFD.out _ (HB0.out.trans (hvb.mono HB0.out.size))) ?_
 rintro e w1 ⟨rfl,hb1⟩
 have HB1':Hid (Below w0.heap.size w0 w1):=hvb.trans (hb1.mono (by rw [HVZ.out]; exact Nat.le_refl _))
 have hz1:w0.heap.size≤w1.heap.size:=HB1'.out.size
 refine hK.out _ _ ?_ (fun hHeld => ?_)
 ·(try dsimp only)
  obtain ⟨x0,x1⟩:=hHeld
  exact ⟨(hb1.cell (p:=⟨A,11,none⟩) (by show A < v0.heap.size; rw [HVZ.out]; omega)).trans x0,(hb1.cell (p:=⟨w.heap.size,3,none⟩) (by show w.heap.size < v0.heap.size; rw [HVZ.out]; omega)).trans x1⟩
 clear hK K
 refine tkR 7 rfl ?_
 refine wpAnyH_done (by kernel_rfl) ?_ _
 have HB1:Hid (Below w.heap.size w w1):=HB0.out.trans (HB1'.out.mono HB0.out.size)
 have HM:=Lib.hid (HH.out.call HB1.out)
 clear hHeld c11 q0 q1 q2 q3 q4 q5 q6 q7 q8 q9 q10 q11 q12 q13 hb1 hvb
 obtain ⟨q0,q1,q2,q3,q4,q5,q6,q7,q8,q9,q10,q11,q12,q13⟩:=HBOX.out _ HB1'.out
 have c10:w1.cell? ⟨A,10,none⟩=some (.slice (some ⟨S1,0,none⟩) P (capV (X 10))):=HM.out.md.cells.cell (by omega)
 have s0:w1.cell? ⟨S1,p * 2,none⟩=some (.int .i64 (st p).1):=(HM.out.md.stands.cell (by omega)).trans (by rw [rowS_0])
 go_wp2_with fail
 refine wp_region_held_drew (S:=fun w' => w'.cell? ⟨A,10,none⟩=some (.slice (some ⟨S1,0,none⟩) P (capV (X 10)))∧w'.cell? ⟨w.heap.size,1,none⟩=some (.int .i64 (p:Nat))∧w'.cell? ⟨S1,p * 2,none⟩=some (.int .i64 (st p).1)) (by kernel_rfl) ?_ (fun hHeld => ?_)
 ·exact ⟨c10,q1,s0⟩
 obtain ⟨v1,hv0⟩:∃ w',w'=w1.drew:=⟨_,rfl⟩
 have hvb:Below w1.heap.size w1 v1:=by rw [hv0]; exact (Below.refl _ _).drew
 have HVZ:Hid (v1.heap.size=w1.heap.size):=by show _=_; rw [hv0]; rfl
 rw [← hv0] at hHeld ⊢
 clear hv0
 refine tkR 0 rfl ?_
 refine tkR 1 rfl ?_
 refine tkR 2 rfl ?_
 refine tkR 3 rfl ?_
 refine tkR 4 rfl ?_
 refine tkR 5 rfl ?_
 refine tkR 6 rfl ?_
 refine tkR 7 rfl ?_
 refine tkR 8 rfl ?_
 refine tkR 9 rfl ?_
 refine wpAnyH_done (by kernel_rfl) ?_ _
 have HBV:Hid (Below w.heap.size w v1):=HB1.out.trans (hvb.mono HB1.out.size)
 clear hHeld c10 s0 q0 q1 q2 q3 q4 q5 q6 q7 q8 q9 q10 q11 q12 q13 hvb
 go_wp2
 go_ret
 exact ⟨by first | rfl | (simp; done),HBV.out⟩
end
section
open Go.RowKit
theorem kv_onesM (L:List Int):∀ u ∈ kv .i64 L,u.oneCell'=true:=by
 intro u hu
 simp only [kv,List.mem_map] at hu
 obtain ⟨x,_,rfl⟩:=hu
 rfl
set_option maxRecDepth 20000 in
set_option maxHeartbeats 3200000 in
theorem clone_ints {w:World} {B n:Nat} {v:Value} {xs:List Value} (hn:n≤1000000) (hv:Sl w B 1 v n xs) (hone:∀ u ∈ xs,u.oneCell'=true) (hB:B≤w.heap.size) :
  Calls Tryz.prog 65 #[v] w fun e w' => ∃ u,e=.returned u∧w'.ownsRow w.heap.size 3 1 u n xs∧Below w.heap.size w w':=by
 have HS:=Lib.hid hv
 obtain ⟨A,cap,rfl,h1,h2⟩:=hv.form
 have HONE:=Lib.hid hone
 cases A with
 | none =>
  have hn0:n=0:=by
   rcases Nat.eq_zero_or_pos n with h | h
   ·exact h
   ·obtain ⟨b,off,c,e,_⟩:=hv.at_ h
    cases e
  subst hn0
  have hx:xs=[]:=by have:=hv.len; simpa using this
  subst hx
  clear hv h1 h2 HS HONE hone
  have hnil:=fun (W:World) => Lib.run_eql_slice_nil (P:=Tryz.prog) W 62 3 none 0 cap 0 0 Tryz.underlying62
  go_enter Tryz.func65,Tryz.ntmps65
  go_wp2_with fail
  go_ret
  exact ⟨_,rfl,⟨by simp,.inl (by simp)⟩,Below.refl _ _⟩
 | some a =>
  clear hv h2 hone
  have hnil:=fun (W:World) => Lib.run_eql_slice_nil (P:=Tryz.prog) W 62 3 (some a) n cap 0 0 Tryz.underlying62
  go_enter Tryz.func65,Tryz.ntmps65
  go_wp2_with (first
   | (at_builtin; refine wpList_apv _ rfl stIntM _ _ rfl w.heap.size (.slice (some ⟨w.heap.size,0,none⟩) 0 0) 0 [] rfl ⟨by simp,.inr ⟨w.heap.size,0,#[],rfl,Nat.le_refl _,heap_alloc_new w _,Nat.le_refl _,by simp [maxLen],by simp,by simp⟩⟩ B _ n xs rfl (HS.out.below (by (repeat' (first | (with_reducible exact Below.refl _ _) | (with_reducible refine Below.alloc ?_ ?_ _) | go_size)))) HONE.out (by omega) (by go_size) ?_; intro A2 c2 w9 hown2 hgr2 hat2 hbel2; clear hgr2 hat2))
  have HO0:w9.ownsRow w.heap.size 3 1 (.slice A2 n c2) n xs:=by simpa using hown2
  have HO:=Lib.hid HO0
  clear HO0
  have HB9:Hid (Below w.heap.size w w9):=Below.trans ((Below.refl _ _).alloc (Nat.le_refl _) _) hbel2
  clear hown2 hbel2
  go_wp2
  go_ret
  exact ⟨_,by first | rfl | (simp; done),HO.out,HB9.out⟩
set_option maxHeartbeats 1600000 in
theorem model_Vlans {w:World} {L A S1 Q bp:Nat} {uv:Value} {P r nv:Nat} {lv:List Vl} {st:Nat→Int × Nat} {G:Nat→Value} (h:MdAt w L A S1 Q uv (.pointer (some ⟨bp,0,none⟩)) P r nv lv st G) (hnv:nv≤1000) :
  Calls Tryz.prog 55 #[.pointer (some ⟨A,0,none⟩)] w fun e w' => ∃ u,e=.returned u∧w'.ownsRow w.heap.size 80 3 u nv (vlc lv)∧Below w.heap.size w w':=by
 have HN:=Lib.hid (model_isNone h)
 have HC:=Lib.hid fun w' (hb:Below w.heap.size w w') => clone_vlans (by omega) (Sl.of_own (own_below h.vlans hb)) (vlc_one lv) (Nat.le_refl _)
 have HH:=Lib.hid h
 clear h
 go_enter Tryz.func55,Tryz.ntmps55
 go_wp2_with (first
  | (go_at_call 28; (with_reducible refine Calls.mono HN.out ?_); rintro e w1 ⟨rfl,hb⟩; (have HB:=Lib.hid hb); (have c2:w1.cell? ⟨A,2,none⟩=some uv:=(HH.out.call hb).cells.cell (by omega)); clear hb)
  | (go_at_call 23; (with_reducible refine Calls.mono (HC.out _ HB.out) ?_); rintro e w2 ⟨u,rfl,ho,hb⟩; (have HO:=Lib.hid (own_base ho HB.out.size)); (have HB2:=Lib.hid (HB.out.trans (hb.mono HB.out.size))); clear ho hb)
  | fail)
 go_ret
 exact ⟨_,by first | rfl | (simp; done),HO.out,HB2.out⟩
set_option maxHeartbeats 1600000 in
theorem model_Queue {w:World} {L A S1 Q bp:Nat} {uv:Value} {P r nv:Nat} {lv:List Vl} {st:Nat→Int × Nat} {G:Nat→Value} {R:Nat→Nat} {qv:Nat→Nat→Value} {qs:Nat→Nat→List Int} (h:MdAt w L A S1 Q uv (.pointer (some ⟨bp,0,none⟩)) P r nv lv st G) (hQ:QuAt w L P R G qv qs) (i j:Nat) (hi:i < P) (hj:j < P) (hlen:(qs i j).length≤1000000) :
  Calls Tryz.prog 15 #[.pointer (some ⟨A,0,none⟩),.int .i64 (i:Nat),.int .i64 (j:Nat)] w fun e w' => ∃ u,e=.returned u∧w'.ownsRow w.heap.size 3 1 u (qs i j).length (kv .i64 (qs i j))∧Below w.heap.size w w':=by
 have hp1:=fun w' (hb:Below w.heap.size w w') => model_isPort (h.call hb) (i:Int)
 have hp2:=fun w' (hb:Below w.heap.size w w') => model_isPort (h.call hb) (j:Int)
 have e1:portB P (i:Int)=true:=by unfold portB; simp; omega
 have e2:portB P (j:Int)=true:=by unfold portB; simp; omega
 rw [e1] at hp1
 rw [e2] at hp2
 have HP1:=Lib.hid hp1
 have HP2:=Lib.hid hp2
 have HC:=Lib.hid fun w' (hb:Below w.heap.size w w') => clone_ints hlen (Sl.of_own (own_below (hQ.own i j hi hj) hb)) (kv_onesM (qs i j)) (Nat.le_refl _)
 have d1:decide (i < P)=true:=decide_eq_true hi
 have d2:decide (j < P)=true:=decide_eq_true hj
 have HCQ:Hid (∀ w',Below w.heap.size w w'→w'.cell? ⟨A,4,none⟩=some (.slice (some ⟨Q,0,none⟩) P P)∧w'.cell? ⟨Q,i,none⟩=some (.slice (some ⟨R i,0,none⟩) P (capV (G i)))∧w'.cell? ⟨R i,j,none⟩=some (qv i j)):=fun w' hb => by
  have hm:=h.call hb
  have hq:=hQ.call hb
  exact ⟨hm.cells.cell (by omega),(hm.queues.cell hi).trans (congrArg some (hq.at_ i hi)),(hq.row i hi).cell (Nat.lt_of_lt_of_le hj (hq.cq i hi))⟩
 clear h hQ hp1 hp2 e1 e2
 go_enter Tryz.func15,Tryz.ntmps15
 go_wp2_with (first
  | (go_at_call 64; (with_reducible refine Calls.mono (HP1.out _ (Below.refl _ _)) ?_); rintro e w1 ⟨rfl,hb⟩; (have HB1:=Lib.hid hb); clear hb)
  | (go_at_call 64; (with_reducible refine Calls.mono (HP2.out _ HB1.out) ?_); rintro e w2 ⟨rfl,hb⟩; (have HB:=Lib.hid (HB1.out.trans (hb.mono HB1.out.size))); (obtain ⟨c4,cq,cr⟩:=HCQ.out _ HB.out); clear hb)
  | (go_at_call 65; (with_reducible refine Calls.mono (HC.out _ HB.out) ?_); rintro e w3 ⟨u,rfl,ho,hb⟩; (have HO:=Lib.hid (own_base ho HB.out.size)); (have HB2:=Lib.hid (HB.out.trans (hb.mono HB.out.size))); clear ho hb)
  | fail)
 go_ret
 exact ⟨_,by first | rfl | (simp; done),HO.out,HB2.out⟩
end
end Go.Proofs.YtpcapdpglpgcbaaGreat
