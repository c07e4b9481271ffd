/-
  Words and contracts that a statement's proof rests on (MoE). No statement is proved here.
-/
import Derived.Test.YtfekhdgjgjodlaaMoU
set_option linter.unusedVariables false
set_option linter.unusedSimpArgs false
namespace Go.Proofs.Ytfekhdgjgjodlaa
open Go.RowKit
set_option maxHeartbeats 800000 in
theorem model_may0 {w:World} {L A S1 Q bp:Nat} {uv:Value} {P r nv:Nat} {lv:List Vl} {st:Nat→Int × Nat} {G:Nat→Value} (h:MdAt w L A S1 Q uv (.pointer (some ⟨bp,0,none⟩)) P r nv lv st G) (po tt vi sx:Int) (kv km me un nw li sh bu id:Int):Calls Try.prog 51 #[.pointer (some ⟨A,0,none⟩),opV 0 po tt vi sx kv km me un nw li sh bu id] w (Says (.bool (portB P po)) w):=by
 have HH:=Lib.hid h
 have HP:=Lib.hid fun w' (hb:Below w.heap.size w w') => model_isPort (h.call hb) po
 clear h
 unfold opV
 go_enter Try.func51,Try.ntmps51
 go_wp2_with fail
 refine (HP.out _ ((Below.refl _ _).alloc (Nat.le_refl _) _)).mono ?_
 rintro e w1 ⟨rfl,hb⟩
 go_wp2
 go_ret
 exact ⟨rfl,((Below.refl _ _).alloc (Nat.le_refl _) _).trans (hb.mono (by simp))⟩
set_option maxHeartbeats 800000 in
theorem model_may2 {w:World} {L A S1 Q bp:Nat} {uv:Value} {P r nv:Nat} {lv:List Vl} {st:Nat→Int × Nat} {G:Nat→Value} (h:MdAt w L A S1 Q uv (.pointer (some ⟨bp,0,none⟩)) P r nv lv st G) (po tt vi sx:Int) (kv km me un nw li sh bu id:Int):Calls Try.prog 51 #[.pointer (some ⟨A,0,none⟩),opV 2 po tt vi sx kv km me un nw li sh bu id] w (Says (.bool (portB P po)) w):=by
 have HH:=Lib.hid h
 have HP:=Lib.hid fun w' (hb:Below w.heap.size w w') => model_isPort (h.call hb) po
 clear h
 unfold opV
 go_enter Try.func51,Try.ntmps51
 go_wp2_with fail
 refine (HP.out _ ((Below.refl _ _).alloc (Nat.le_refl _) _)).mono ?_
 rintro e w1 ⟨rfl,hb⟩
 go_wp2
 go_ret
 exact ⟨rfl,((Below.refl _ _).alloc (Nat.le_refl _) _).trans (hb.mono (by simp))⟩
set_option maxHeartbeats 800000 in
theorem model_may4 {w:World} {L A S1 Q bp:Nat} {uv:Value} {P r nv:Nat} {lv:List Vl} {st:Nat→Int × Nat} {G:Nat→Value} (h:MdAt w L A S1 Q uv (.pointer (some ⟨bp,0,none⟩)) P r nv lv st G) (po tt vi sx:Int) (kv km me un nw li sh bu id:Int):Calls Try.prog 51 #[.pointer (some ⟨A,0,none⟩),opV 4 po tt vi sx kv km me un nw li sh bu id] w (Says (.bool (portB P po)) w):=by
 have HH:=Lib.hid h
 have HP:=Lib.hid fun w' (hb:Below w.heap.size w w') => model_isPort (h.call hb) po
 clear h
 unfold opV
 go_enter Try.func51,Try.ntmps51
 go_wp2_with fail
 refine (HP.out _ ((Below.refl _ _).alloc (Nat.le_refl _) _)).mono ?_
 rintro e w1 ⟨rfl,hb⟩
 go_wp2
 go_ret
 exact ⟨rfl,((Below.refl _ _).alloc (Nat.le_refl _) _).trans (hb.mono (by simp))⟩
set_option maxHeartbeats 800000 in
theorem model_may1 {w:World} {L A S1 Q bp:Nat} {uv:Value} {P r nv:Nat} {lv:List Vl} {st:Nat→Int × Nat} {G:Nat→Value} (h:MdAt w L A S1 Q uv (.pointer (some ⟨bp,0,none⟩)) P r nv lv st G) (po tt vi sx:Int) (kv km me un nw li sh bu id:Int):Calls Try.prog 51 #[.pointer (some ⟨A,0,none⟩),opV 1 po tt vi sx kv km me un nw li sh bu id] w (Says (.bool true) w):=by
 clear h
 unfold opV
 go_enter Try.func51,Try.ntmps51
 go_wp2_with fail
 go_ret
 exact ⟨rfl,(Below.refl _ _).alloc (Nat.le_refl _) _⟩
set_option maxHeartbeats 800000 in
theorem model_may3 {w:World} {L A S1 Q bp:Nat} {uv:Value} {P r nv:Nat} {lv:List Vl} {st:Nat→Int × Nat} {G:Nat→Value} (h:MdAt w L A S1 Q uv (.pointer (some ⟨bp,0,none⟩)) P r nv lv st G) (po tt vi sx:Int) (kv km me un nw li sh bu id:Int):Calls Try.prog 51 #[.pointer (some ⟨A,0,none⟩),opV 3 po tt vi sx kv km me un nw li sh bu id] w (Says (.bool true) w):=by
 clear h
 unfold opV
 go_enter Try.func51,Try.ntmps51
 go_wp2_with fail
 go_ret
 exact ⟨rfl,(Below.refl _ _).alloc (Nat.le_refl _) _⟩
set_option maxHeartbeats 800000 in
theorem model_may5 {w:World} {L A S1 Q bp:Nat} {uv:Value} {P r nv:Nat} {lv:List Vl} {st:Nat→Int × Nat} {G:Nat→Value} (h:MdAt w L A S1 Q uv (.pointer (some ⟨bp,0,none⟩)) P r nv lv st G) (po tt vi sx:Int) (kv km me un nw li sh bu id:Int):Calls Try.prog 51 #[.pointer (some ⟨A,0,none⟩),opV 5 po tt vi sx kv km me un nw li sh bu id] w (Says (.bool true) w):=by
 clear h
 unfold opV
 go_enter Try.func51,Try.ntmps51
 go_wp2_with fail
 go_ret
 exact ⟨rfl,(Below.refl _ _).alloc (Nat.le_refl _) _⟩
set_option maxHeartbeats 800000 in
theorem model_may6 {w:World} {L A S1 Q bp:Nat} {uv:Value} {P r nv:Nat} {lv:List Vl} {st:Nat→Int × Nat} {G:Nat→Value} (h:MdAt w L A S1 Q uv (.pointer (some ⟨bp,0,none⟩)) P r nv lv st G) (po tt vi sx:Int) (kv km me un nw li sh bu id:Int):Calls Try.prog 51 #[.pointer (some ⟨A,0,none⟩),opV 6 po tt vi sx kv km me un nw li sh bu id] w (Says (.bool true) w):=by
 clear h
 unfold opV
 go_enter Try.func51,Try.ntmps51
 go_wp2_with fail
 go_ret
 exact ⟨rfl,(Below.refl _ _).alloc (Nat.le_refl _) _⟩
set_option maxHeartbeats 800000 in
theorem model_may7 {w:World} {L A S1 Q bp:Nat} {uv:Value} {P r nv:Nat} {lv:List Vl} {st:Nat→Int × Nat} {G:Nat→Value} (h:MdAt w L A S1 Q uv (.pointer (some ⟨bp,0,none⟩)) P r nv lv st G) (po tt vi sx:Int) (kv km me un nw li sh bu id:Int):Calls Try.prog 51 #[.pointer (some ⟨A,0,none⟩),opV 7 po tt vi sx kv km me un nw li sh bu id] w (Says (.bool true) w):=by
 clear h
 unfold opV
 go_enter Try.func51,Try.ntmps51
 go_wp2_with fail
 go_ret
 exact ⟨rfl,(Below.refl _ _).alloc (Nat.le_refl _) _⟩
set_option maxHeartbeats 800000 in
theorem model_may9 {w:World} {L A S1 Q bp:Nat} {uv:Value} {P r nv:Nat} {lv:List Vl} {st:Nat→Int × Nat} {G:Nat→Value} (h:MdAt w L A S1 Q uv (.pointer (some ⟨bp,0,none⟩)) P r nv lv st G) (po tt vi sx:Int) (kv km me un nw li sh bu id:Int):Calls Try.prog 51 #[.pointer (some ⟨A,0,none⟩),opV 9 po tt vi sx kv km me un nw li sh bu id] w (Says (.bool true) w):=by
 clear h
 unfold opV
 go_enter Try.func51,Try.ntmps51
 go_wp2_with fail
 go_ret
 exact ⟨rfl,(Below.refl _ _).alloc (Nat.le_refl _) _⟩
set_option maxHeartbeats 1600000 in
theorem model_may10 {w:World} {L A S1 Q bp:Nat} {uv:Value} {P r nv:Nat} {lv:List Vl} {st:Nat→Int × Nat} {G:Nat→Value} (h:MdAt w L A S1 Q uv (.pointer (some ⟨bp,0,none⟩)) P r nv lv st G) (po tt vi sx:Int) (kv km me un nw li sh bu id:Int) (h1:portB P po=true) (h2:portB P tt=true):Calls Try.prog 51 #[.pointer (some ⟨A,0,none⟩),opV 10 po tt vi sx kv km me un nw li sh bu id] w (Says (.bool true) w):=by
 have hp1:=fun w' (hb:Below w.heap.size w w') => model_isPort (h.call hb) po
 have hp2:=fun w' (hb:Below w.heap.size w w') => model_isPort (h.call hb) tt
 rw [h1] at hp1
 rw [h2] at hp2
 have HP1:=Lib.hid hp1
 have HP2:=Lib.hid hp2
 clear h h1 h2 hp1 hp2
 unfold opV
 go_enter Try.func51,Try.ntmps51
 go_wp2_with fail
 refine (HP1.out _ ((Below.refl _ _).alloc (Nat.le_refl _) _)).mono ?_
 rintro e w1 ⟨rfl,hb⟩
 have HB1:Hid (Below w.heap.size w w1):=((Below.refl _ _).alloc (Nat.le_refl _) _).trans (hb.mono (by simp))
 have c2:w1.cell? ⟨w.heap.size,2,none⟩=some (.int .i64 tt):=by
  rw [hb.cell (by show w.heap.size < _; simp)]
  simp [go_sem]
 clear hb
 go_wp2_with fail
 refine (HP2.out _ HB1.out).mono ?_
 rintro e w2 ⟨rfl,hb⟩
 have HB2:Hid (Below w.heap.size w w2):=HB1.out.trans (hb.mono HB1.out.size)
 clear hb c2
 go_wp2
 go_ret
 exact ⟨by first | rfl | (simp; done),HB2.out⟩
set_option maxHeartbeats 1600000 in
theorem model_may11 {w:World} {L A S1 Q bp:Nat} {uv:Value} {P r nv:Nat} {lv:List Vl} {st:Nat→Int × Nat} {G:Nat→Value} (h:MdAt w L A S1 Q uv (.pointer (some ⟨bp,0,none⟩)) P r nv lv st G) (po tt vi sx:Int) (kv km me un nw li sh bu id:Int) (h1:portB P po=true) (h2:portB P tt=true):Calls Try.prog 51 #[.pointer (some ⟨A,0,none⟩),opV 11 po tt vi sx kv km me un nw li sh bu id] w (Says (.bool true) w):=by
 have hp1:=fun w' (hb:Below w.heap.size w w') => model_isPort (h.call hb) po
 have hp2:=fun w' (hb:Below w.heap.size w w') => model_isPort (h.call hb) tt
 rw [h1] at hp1
 rw [h2] at hp2
 have HP1:=Lib.hid hp1
 have HP2:=Lib.hid hp2
 clear h h1 h2 hp1 hp2
 unfold opV
 go_enter Try.func51,Try.ntmps51
 go_wp2_with fail
 refine (HP1.out _ ((Below.refl _ _).alloc (Nat.le_refl _) _)).mono ?_
 rintro e w1 ⟨rfl,hb⟩
 have HB1:Hid (Below w.heap.size w w1):=((Below.refl _ _).alloc (Nat.le_refl _) _).trans (hb.mono (by simp))
 have c2:w1.cell? ⟨w.heap.size,2,none⟩=some (.int .i64 tt):=by
  rw [hb.cell (by show w.heap.size < _; simp)]
  simp [go_sem]
 clear hb
 go_wp2_with fail
 refine (HP2.out _ HB1.out).mono ?_
 rintro e w2 ⟨rfl,hb⟩
 have HB2:Hid (Below w.heap.size w w2):=HB1.out.trans (hb.mono HB1.out.size)
 clear hb c2
 go_wp2
 go_ret
 exact ⟨by first | rfl | (simp; done),HB2.out⟩
theorem portB_in {P p:Nat} (h:p < P):portB P (p:Int)=true:=by
 unfold portB
 simp
 omega
end Go.Proofs.Ytfekhdgjgjodlaa
