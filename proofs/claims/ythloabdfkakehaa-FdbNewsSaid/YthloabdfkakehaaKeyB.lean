/-
  Words and contracts that a statement's proof rests on (KeyB). No statement is proved here.
-/
import Derived.Test.YthloabdfkakehaaTicks
set_option linter.unusedVariables false
set_option linter.unusedSimpArgs false
namespace Go.Proofs.Ythloabdfkakehaa
open Go.RowKit
def ofV (a:Nat):Int:=if okW a=true then (vidW a:Int) else 0
def ofM (a:Nat):Nat:=if okW a=true then macW a else 0
def keyT (a:Nat):Value:=.tuple #[.agg #[.int .i64 (ofV a),.int .u64 (ofM a:Nat)],.bool (okW a)]
theorem keyT_no {a:Nat} (h:okW a=false):keyT a=.tuple #[.agg #[.int .i64 0,.int .u64 0],.bool false]:=by
 unfold keyT ofV ofM; rw [h]; rfl
theorem keyT_yes {a:Nat} (h:okW a=true):keyT a=.tuple #[.agg #[.int .i64 (vidW a:Int),.int .u64 (macW a:Nat)],.bool true]:=by
 unfold keyT ofV ofM; rw [h]; rfl
set_option maxHeartbeats 1600000 in
theorem key_Of (a:Nat) (ha:a < 18446744073709551616) (w:World) :
  Calls Try.prog 106 #[.int .u64 (a:Int)] w (Says (keyT a) w):=by
 have h1:bits .and .u64 ((a:Int) / 281474976710656) 4095=((vidW a:Nat):Int):=by
  have:=u64_and_nat (a / 281474976710656) 4095 (by omega) (by omega)
  rw [and_4095] at this
  unfold vidW
  rw [← this]
  simp
 have h2:bits .and .u64 (a:Int) 281474976710655=((macW a:Nat):Int):=by
  have:=u64_and_nat a 281474976710655 ha (by omega)
  rw [and_low] at this
  exact this
 have hv:vidW a < 4096:=Nat.mod_lt _ (by omega)
 have hm:macW a < 281474976710656:=Nat.mod_lt _ (by omega)
 have hk:=okW_word a ha
 have hR:=fun W => key_Right (vidW a:Int) (macW a) (by omega) W
 have hW:=fun W => key_Word (vidW a:Int) (macW a) (by omega) W
 have hno:okW a=false→keyT a=.tuple #[.agg #[.int .i64 0,.int .u64 0],.bool false]:=keyT_no
 have hyes:okW a=true→keyT a=.tuple #[.agg #[.int .i64 (vidW a:Int),.int .u64 (macW a:Nat)],.bool true]:=keyT_yes
 generalize keyT a=t at *
 generalize vidW a=v at *
 generalize macW a=m at *
 cases hr:rightK (v:Int) m
 ·rw [hr,Bool.false_and] at hk
  rw [hno hk]
  rw [hr] at hR
  have HR:=Lib.hid hR
  clear hno hyes hk hr hR hW
  go_enter Try.func106,Try.ntmps106
  go_wp2_with fail
  refine (HR.out _).mono ?_
  rintro e w1 ⟨rfl,hb⟩
  obtain ⟨hc,hf⟩:=bcell hb
  have c0:∀ o,w1.frozen? ⟨w.heap.size,o,none⟩=false:=fun o => by rw [hf _ _ (by simp; omega)]; simp [go_sem]
  have c1:w1.cell? ⟨w.heap.size,0,none⟩=some (.int .i64 0):=by rw [hc _ _ (by simp; omega)]; simp [go_sem]
  have c2:w1.cell? ⟨w.heap.size,1,none⟩=some (.int .u64 0):=by rw [hc _ _ (by simp; omega)]; simp [go_sem]
  have hB1:Below w.heap.size w w1:=Below.trans (by (repeat' (first | (with_reducible exact Below.refl _ _) | (with_reducible refine Below.setCell ?_ ?_ _) | (with_reducible refine Below.alloc ?_ ?_ _) | go_size))) (hb.mono (by go_size))
  clear hc hf hb
  go_wp2
  exact bodyPost_ret (v:=.tuple #[.agg #[.int .i64 0,.int .u64 0],.bool false]) (by simp [results,Try.results106,go_sem,c1,c2]) rfl ⟨rfl,(by (repeat' (first | (with_reducible exact Below.refl _ _) | (with_reducible assumption) | (with_reducible refine Below.setCell ?_ ?_ _) | (with_reducible refine Below.alloc ?_ ?_ _) | go_size)))⟩
 ·rw [hr,Bool.true_and] at hk
  rw [hr] at hR
  have HR:=Lib.hid hR
  have hq:wordN (v:Int) m=a ∨ wordN (v:Int) m ≠ a:=Decidable.em _
  obtain ⟨y,hy⟩:∃ y,y=wordN (v:Int) m:=⟨_,rfl⟩
  rw [← hy] at hk hW hq
  have HW:=Lib.hid hW
  clear hr hR hW hy
  rcases hq with hq | hq
  ·subst hq
   rw [hyes (by rw [hk]; simp)]
   clear hno hyes hk
   go_enter Try.func106,Try.ntmps106
   go_wp2_with fail
   refine (HR.out _).mono ?_
   rintro e w1 ⟨rfl,hb⟩
   obtain ⟨hc,hf⟩:=bcell hb
   have c0:∀ o,w1.frozen? ⟨w.heap.size,o,none⟩=false:=fun o => by rw [hf _ _ (by simp; omega)]; simp [go_sem]
   have c1:w1.cell? ⟨w.heap.size,0,none⟩=some (.int .i64 0):=by rw [hc _ _ (by simp; omega)]; simp [go_sem]
   have c2:w1.cell? ⟨w.heap.size,1,none⟩=some (.int .u64 0):=by rw [hc _ _ (by simp; omega)]; simp [go_sem]
   have e1:w1.cell? ⟨w.heap.size + 1,0,none⟩=some (.int .i64 (v:Int)):=by rw [hc _ _ (by simp)]; simp [go_sem]
   have e2:w1.cell? ⟨w.heap.size + 1,1,none⟩=some (.int .u64 (m:Int)):=by rw [hc _ _ (by simp)]; simp [go_sem]
   have hB1:Below w.heap.size w w1:=Below.trans (by (repeat' (first | (with_reducible exact Below.refl _ _) | (with_reducible refine Below.setCell ?_ ?_ _) | (with_reducible refine Below.alloc ?_ ?_ _) | go_size))) (hb.mono (by go_size))
   have hz1:w.heap.size + 2≤w1.heap.size:=by have:=hb.size; simp at this; omega
   clear hc hf hb
   go_wp2_with fail
   refine (HW.out _).mono ?_
   rintro e w2 ⟨rfl,hb⟩
   obtain ⟨hc,hf⟩:=bcell hb
   have d0:∀ o,w2.frozen? ⟨w.heap.size,o,none⟩=false:=fun o => by rw [hf _ _ (by omega)]; exact c0 o
   have d1:=(hc w.heap.size 0 (by omega)).trans c1
   have d2:=(hc w.heap.size 1 (by omega)).trans c2
   have f1:=(hc (w.heap.size + 1) 0 (by omega)).trans e1
   have f2:=(hc (w.heap.size + 1) 1 (by omega)).trans e2
   have hB2:=hB1.trans (hb.mono (by omega))
   clear hc hf hb c0 c1 c2 e1 e2 hB1
   go_wp2
   exact bodyPost_ret (v:=.tuple #[.agg #[.int .i64 (v:Int),.int .u64 (m:Int)],.bool true]) (by simp [results,Try.results106,go_sem,d1,d2]) rfl ⟨rfl,(by (repeat' (first | (with_reducible exact Below.refl _ _) | (with_reducible assumption) | (with_reducible refine Below.setCell ?_ ?_ _) | (with_reducible refine Below.alloc ?_ ?_ _) | go_size)))⟩
  ·rw [hno (by rw [hk]; simpa using hq)]
   have hq':¬ (y:Int)=(a:Int):=by omega
   clear hno hyes hk hq
   go_enter Try.func106,Try.ntmps106
   go_wp2_with fail
   refine (HR.out _).mono ?_
   rintro e w1 ⟨rfl,hb⟩
   obtain ⟨hc,hf⟩:=bcell hb
   have c0:∀ o,w1.frozen? ⟨w.heap.size,o,none⟩=false:=fun o => by rw [hf _ _ (by simp; omega)]; simp [go_sem]
   have c1:w1.cell? ⟨w.heap.size,0,none⟩=some (.int .i64 0):=by rw [hc _ _ (by simp; omega)]; simp [go_sem]
   have c2:w1.cell? ⟨w.heap.size,1,none⟩=some (.int .u64 0):=by rw [hc _ _ (by simp; omega)]; simp [go_sem]
   have e1:w1.cell? ⟨w.heap.size + 1,0,none⟩=some (.int .i64 (v:Int)):=by rw [hc _ _ (by simp)]; simp [go_sem]
   have e2:w1.cell? ⟨w.heap.size + 1,1,none⟩=some (.int .u64 (m:Int)):=by rw [hc _ _ (by simp)]; simp [go_sem]
   have hB1:Below w.heap.size w w1:=Below.trans (by (repeat' (first | (with_reducible exact Below.refl _ _) | (with_reducible refine Below.setCell ?_ ?_ _) | (with_reducible refine Below.alloc ?_ ?_ _) | go_size))) (hb.mono (by go_size))
   have hz1:w.heap.size + 2≤w1.heap.size:=by have:=hb.size; simp at this; omega
   clear hc hf hb
   go_wp2_with fail
   refine (HW.out _).mono ?_
   rintro e w2 ⟨rfl,hb⟩
   obtain ⟨hc,hf⟩:=bcell hb
   have d0:∀ o,w2.frozen? ⟨w.heap.size,o,none⟩=false:=fun o => by rw [hf _ _ (by omega)]; exact c0 o
   have d1:=(hc w.heap.size 0 (by omega)).trans c1
   have d2:=(hc w.heap.size 1 (by omega)).trans c2
   have hB2:=hB1.trans (hb.mono (by omega))
   clear hc hf hb c0 c1 c2 e1 e2 hB1
   go_wp2
   exact bodyPost_ret (v:=.tuple #[.agg #[.int .i64 0,.int .u64 0],.bool false]) (by simp [results,Try.results106,go_sem,d1,d2]) rfl ⟨rfl,(by (repeat' (first | (with_reducible exact Below.refl _ _) | (with_reducible assumption) | (with_reducible refine Below.setCell ?_ ?_ _) | (with_reducible refine Below.alloc ?_ ?_ _) | go_size)))⟩
end Go.Proofs.Ythloabdfkakehaa
