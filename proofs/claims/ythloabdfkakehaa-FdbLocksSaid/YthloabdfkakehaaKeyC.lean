/-
  Words and contracts that a statement's proof rests on (KeyC). No statement is proved here.
-/
import Derived.Test.YthloabdfkakehaaKeyB
set_option linter.unusedVariables false
set_option linter.unusedSimpArgs false
namespace Go.Proofs.Ythloabdfkakehaa
open Go.RowKit
theorem fix_vid (v:Int):wrap64 (1 + wrap64 ((IntKind.u64.wrap v).tmod 4094))=fixV v:=by
 rw [Int.tmod_eq_emod_of_nonneg (by rw [IntKind.wrap_u64]; omega),IntKind.wrap_u64]; unfold wrap64 fixV; omega
set_option maxHeartbeats 12800000 in
theorem ref8_Fix (v:Int) (m:Nat) (hm:m < 18446744073709551616) (w:World) :
  Calls Try.prog 101 #[.agg #[.int .i64 v,.int .u64 (m:Int)]] w (Says (.agg #[.int .i64 (fixV v),.int .u64 (fixM m:Nat)]) w):=by
 have hx:=fixV_lt v
 have hv:=fix_vid v
 have hL:m % 281474976710656 < 281474976710656:=Nat.mod_lt _ (by omega)
 have hf1:m % 281474976710656 / 1099511627776 % 2=1→m % 281474976710656 - 1099511627776=0→fixM m=1:=fun a b => by unfold fixM; rw [if_pos a,if_pos b]
 have hf2:m % 281474976710656 / 1099511627776 % 2=1→m % 281474976710656 - 1099511627776 ≠ 0→fixM m=m % 281474976710656 - 1099511627776:=fun a b => by unfold fixM; rw [if_pos a,if_neg b]
 have hf3:m % 281474976710656 / 1099511627776 % 2 ≠ 1→m % 281474976710656=0→fixM m=1:=fun a b => by unfold fixM; rw [if_neg a,if_pos b]
 have hf4:m % 281474976710656 / 1099511627776 % 2 ≠ 1→m % 281474976710656 ≠ 0→fixM m=m % 281474976710656:=fun a b => by unfold fixM; rw [if_neg a,if_neg b]
 have hlo:=fun W => ref_Low m W
 generalize fixM m=r at *
 generalize fixV v=x at *
 generalize m % 281474976710656=L at *
 have hby:=fun W => ref_Bytes L (by omega) W
 have hB0:L / 1099511627776 % 256=L / 1099511627776:=by omega
 have HLO:=Lib.hid hlo
 have HBY:=Lib.hid hby
 clear hlo hby
 rcases (show (L / 1099511627776 % 2=1∧L - 1099511627776=0) ∨ (L / 1099511627776 % 2=1∧L - 1099511627776 ≠ 0) ∨ (L / 1099511627776 % 2 ≠ 1∧L=0) ∨ (L / 1099511627776 % 2 ≠ 1∧L ≠ 0) by omega) with ⟨a,b⟩ | ⟨a,b⟩ | ⟨a,b⟩ | ⟨a,b⟩
 ·rw [hf1 a b]
  clear hf1 hf2 hf3 hf4 hm
  obtain ⟨q,hq⟩:∃ q,q=L / 1099511627776:=⟨_,rfl⟩
  have hql:q < 256:=by omega
  rw [← hq] at a
  have hodd:(q:Int) % 2=1:=by omega
  have hsub:IntKind.u64.wrap ((L:Int) - 1099511627776)=0:=by rw [IntKind.wrap_u64]; omega
  go_enter Try.func101,Try.ntmps101
  go_wp2_with fail
  refine (HLO.out _).mono ?_
  rintro e w1 ⟨rfl,rfl⟩
  go_wp2_with fail
  refine (HBY.out _).mono ?_
  rintro e w2 ⟨u,rfl,hown,hb⟩
  obtain ⟨g,cap,rfl,hg,_,hcp,c0,_⟩:=six hown
  rw [hB0,← hq] at c0
  clear hB0 hq a b
  obtain ⟨hc,hf⟩:=bcell hb
  have e0:w2.cell? ⟨w.heap.size,0,none⟩=some (.int .i64 x):=by rw [hc _ _ (by simp; omega)]; simp [go_sem]
  have e1:w2.cell? ⟨w.heap.size,1,none⟩=some (.int .u64 (L:Int)):=by rw [hc _ _ (by simp; omega)]; simp [go_sem]
  have e2:w2.cell? ⟨w.heap.size + 1,0,none⟩=some (.int .i64 0):=by rw [hc _ _ (by simp)]; simp [go_sem]
  have e3:w2.cell? ⟨w.heap.size + 1,1,none⟩=some (.int .u64 0):=by rw [hc _ _ (by simp)]; simp [go_sem]
  have k0:∀ o,w2.frozen? ⟨w.heap.size,o,none⟩=false:=fun o => by rw [hf _ _ (by simp; omega)]; simp [go_sem]
  have k1:∀ o,w2.frozen? ⟨w.heap.size + 1,o,none⟩=false:=fun o => by rw [hf _ _ (by simp)]; simp [go_sem]
  have hB1:Below w.heap.size w w2:=Below.trans (by (repeat' (first | (with_reducible exact Below.refl _ _) | (with_reducible refine Below.setCell ?_ ?_ _) | (with_reducible refine Below.alloc ?_ ?_ _) | go_size))) (hb.mono (by go_size))
  have hz1:w.heap.size + 2≤w2.heap.size:=by have:=hb.size; simp at this; omega
  clear hc hf hb hown hL hx hv HLO HBY
  generalize (L:Int)=Li at *
  go_wp2
  exact bodyPost_ret (v:=.agg #[.int .i64 x,.int .u64 1]) (by simp [results,Try.results101,go_sem,e2,e3]) rfl ⟨rfl,(by (repeat' (first | (with_reducible exact Below.refl _ _) | (with_reducible assumption) | (with_reducible refine Below.setCell ?_ ?_ _) | (with_reducible refine Below.alloc ?_ ?_ _) | go_size)))⟩
 ·rw [hf2 a b]
  clear hf1 hf2 hf3 hf4 hm
  obtain ⟨q,hq⟩:∃ q,q=L / 1099511627776:=⟨_,rfl⟩
  have hql:q < 256:=by omega
  rw [← hq] at a
  have hodd:(q:Int) % 2=1:=by omega
  obtain ⟨D,hD⟩:∃ D,D=L - 1099511627776:=⟨_,rfl⟩
  rw [← hD] at b ⊢
  have hsub:IntKind.u64.wrap ((L:Int) - 1099511627776)=(D:Int):=by rw [IntKind.wrap_u64]; omega
  have hne:¬ (D:Int)=0:=by omega
  go_enter Try.func101,Try.ntmps101
  go_wp2_with fail
  refine (HLO.out _).mono ?_
  rintro e w1 ⟨rfl,rfl⟩
  go_wp2_with fail
  refine (HBY.out _).mono ?_
  rintro e w2 ⟨u,rfl,hown,hb⟩
  obtain ⟨g,cap,rfl,hg,_,hcp,c0,_⟩:=six hown
  rw [hB0,← hq] at c0
  clear hB0 hq a b
  obtain ⟨hc,hf⟩:=bcell hb
  have e0:w2.cell? ⟨w.heap.size,0,none⟩=some (.int .i64 x):=by rw [hc _ _ (by simp; omega)]; simp [go_sem]
  have e1:w2.cell? ⟨w.heap.size,1,none⟩=some (.int .u64 (L:Int)):=by rw [hc _ _ (by simp; omega)]; simp [go_sem]
  have e2:w2.cell? ⟨w.heap.size + 1,0,none⟩=some (.int .i64 0):=by rw [hc _ _ (by simp)]; simp [go_sem]
  have e3:w2.cell? ⟨w.heap.size + 1,1,none⟩=some (.int .u64 0):=by rw [hc _ _ (by simp)]; simp [go_sem]
  have k0:∀ o,w2.frozen? ⟨w.heap.size,o,none⟩=false:=fun o => by rw [hf _ _ (by simp; omega)]; simp [go_sem]
  have k1:∀ o,w2.frozen? ⟨w.heap.size + 1,o,none⟩=false:=fun o => by rw [hf _ _ (by simp)]; simp [go_sem]
  have hB1:Below w.heap.size w w2:=Below.trans (by (repeat' (first | (with_reducible exact Below.refl _ _) | (with_reducible refine Below.setCell ?_ ?_ _) | (with_reducible refine Below.alloc ?_ ?_ _) | go_size))) (hb.mono (by go_size))
  have hz1:w.heap.size + 2≤w2.heap.size:=by have:=hb.size; simp at this; omega
  clear hc hf hb hown hL hx hv HLO HBY
  generalize (L:Int)=Li at *
  generalize (D:Int)=Di at *
  go_wp2
  exact bodyPost_ret (v:=.agg #[.int .i64 x,.int .u64 Di]) (by simp [results,Try.results101,go_sem,e2,e3]) rfl ⟨rfl,(by (repeat' (first | (with_reducible exact Below.refl _ _) | (with_reducible assumption) | (with_reducible refine Below.setCell ?_ ?_ _) | (with_reducible refine Below.alloc ?_ ?_ _) | go_size)))⟩
 ·rw [hf3 a b]
  clear hf1 hf2 hf3 hf4 hm
  obtain ⟨q,hq⟩:∃ q,q=L / 1099511627776:=⟨_,rfl⟩
  have hql:q < 256:=by omega
  rw [← hq] at a
  have hodd:(q:Int) % 2=0:=by omega
  have HZ:Hid ((L:Int)=0):=by show (L:Int)=0; omega
  clear b
  go_enter Try.func101,Try.ntmps101
  go_wp2_with fail
  refine (HLO.out _).mono ?_
  rintro e w1 ⟨rfl,rfl⟩
  go_wp2_with fail
  refine (HBY.out _).mono ?_
  rintro e w2 ⟨u,rfl,hown,hb⟩
  obtain ⟨g,cap,rfl,hg,_,hcp,c0,_⟩:=six hown
  rw [hB0,← hq] at c0
  clear hB0 hq a
  obtain ⟨hc,hf⟩:=bcell hb
  have e0:w2.cell? ⟨w.heap.size,0,none⟩=some (.int .i64 x):=by rw [hc _ _ (by simp; omega)]; simp [go_sem]
  have e1:w2.cell? ⟨w.heap.size,1,none⟩=some (.int .u64 (L:Int)):=by rw [hc _ _ (by simp; omega)]; simp [go_sem]
  have e2:w2.cell? ⟨w.heap.size + 1,0,none⟩=some (.int .i64 0):=by rw [hc _ _ (by simp)]; simp [go_sem]
  have e3:w2.cell? ⟨w.heap.size + 1,1,none⟩=some (.int .u64 0):=by rw [hc _ _ (by simp)]; simp [go_sem]
  have k0:∀ o,w2.frozen? ⟨w.heap.size,o,none⟩=false:=fun o => by rw [hf _ _ (by simp; omega)]; simp [go_sem]
  have k1:∀ o,w2.frozen? ⟨w.heap.size + 1,o,none⟩=false:=fun o => by rw [hf _ _ (by simp)]; simp [go_sem]
  have hB1:Below w.heap.size w w2:=Below.trans (by (repeat' (first | (with_reducible exact Below.refl _ _) | (with_reducible refine Below.setCell ?_ ?_ _) | (with_reducible refine Below.alloc ?_ ?_ _) | go_size))) (hb.mono (by go_size))
  have hz1:w.heap.size + 2≤w2.heap.size:=by have:=hb.size; simp at this; omega
  clear hc hf hb hown hL hx hv HLO HBY
  have hz:=HZ.out
  clear HZ
  generalize (L:Int)=Li at *
  go_wp2
  exact bodyPost_ret (v:=.agg #[.int .i64 x,.int .u64 1]) (by simp [results,Try.results101,go_sem,e2,e3]) rfl ⟨rfl,(by (repeat' (first | (with_reducible exact Below.refl _ _) | (with_reducible assumption) | (with_reducible refine Below.setCell ?_ ?_ _) | (with_reducible refine Below.alloc ?_ ?_ _) | go_size)))⟩
 ·rw [hf4 a b]
  clear hf1 hf2 hf3 hf4 hm
  obtain ⟨q,hq⟩:∃ q,q=L / 1099511627776:=⟨_,rfl⟩
  have hql:q < 256:=by omega
  rw [← hq] at a
  have hodd:(q:Int) % 2=0:=by omega
  have hne:¬ (L:Int)=0:=by omega
  go_enter Try.func101,Try.ntmps101
  go_wp2_with fail
  refine (HLO.out _).mono ?_
  rintro e w1 ⟨rfl,rfl⟩
  go_wp2_with fail
  refine (HBY.out _).mono ?_
  rintro e w2 ⟨u,rfl,hown,hb⟩
  obtain ⟨g,cap,rfl,hg,_,hcp,c0,_⟩:=six hown
  rw [hB0,← hq] at c0
  clear hB0 hq a b
  obtain ⟨hc,hf⟩:=bcell hb
  have e0:w2.cell? ⟨w.heap.size,0,none⟩=some (.int .i64 x):=by rw [hc _ _ (by simp; omega)]; simp [go_sem]
  have e1:w2.cell? ⟨w.heap.size,1,none⟩=some (.int .u64 (L:Int)):=by rw [hc _ _ (by simp; omega)]; simp [go_sem]
  have e2:w2.cell? ⟨w.heap.size + 1,0,none⟩=some (.int .i64 0):=by rw [hc _ _ (by simp)]; simp [go_sem]
  have e3:w2.cell? ⟨w.heap.size + 1,1,none⟩=some (.int .u64 0):=by rw [hc _ _ (by simp)]; simp [go_sem]
  have k0:∀ o,w2.frozen? ⟨w.heap.size,o,none⟩=false:=fun o => by rw [hf _ _ (by simp; omega)]; simp [go_sem]
  have k1:∀ o,w2.frozen? ⟨w.heap.size + 1,o,none⟩=false:=fun o => by rw [hf _ _ (by simp)]; simp [go_sem]
  have hB1:Below w.heap.size w w2:=Below.trans (by (repeat' (first | (with_reducible exact Below.refl _ _) | (with_reducible refine Below.setCell ?_ ?_ _) | (with_reducible refine Below.alloc ?_ ?_ _) | go_size))) (hb.mono (by go_size))
  have hz1:w.heap.size + 2≤w2.heap.size:=by have:=hb.size; simp at this; omega
  clear hc hf hb hown hL hx hv HLO HBY
  generalize (L:Int)=Li at *
  go_wp2
  exact bodyPost_ret (v:=.agg #[.int .i64 x,.int .u64 Li]) (by simp [results,Try.results101,go_sem,e2,e3]) rfl ⟨rfl,(by (repeat' (first | (with_reducible exact Below.refl _ _) | (with_reducible assumption) | (with_reducible refine Below.setCell ?_ ?_ _) | (with_reducible refine Below.alloc ?_ ?_ _) | go_size)))⟩
end Go.Proofs.Ythloabdfkakehaa
