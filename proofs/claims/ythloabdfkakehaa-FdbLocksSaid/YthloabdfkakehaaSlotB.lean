/-
  Words and contracts that a statement's proof rests on (SlotB). No statement is proved here.
-/
import Derived.Test.YthloabdfkakehaaSlotA
import Derived.Test.YthloabdfkakehaaBuH
set_option linter.unusedVariables false
set_option linter.unusedSimpArgs false
namespace Go.Proofs.Ythloabdfkakehaa
open Go.RowKit
def slotT (a b:Nat):Value :=
 if okE a b=true then .tuple #[.agg #[.int .i64 (vidW a:Int),.int .u64 (macW a:Nat),.int .i64 ((b % 256:Nat):Int),.bool (decide (b / 256 % 2=1)),.int .u32 ((b / 4294967296:Nat):Int)],.bool true]
 else .tuple #[.agg #[.int .i64 0,.int .u64 0,.int .i64 0,.bool false,.int .u32 0],.bool false]
theorem slotT_no {a b:Nat} (h:okE a b=false):slotT a b=.tuple #[.agg #[.int .i64 0,.int .u64 0,.int .i64 0,.bool false,.int .u32 0],.bool false]:=by
 unfold slotT; rw [h]; rfl
theorem slotT_yes {a b:Nat} (h:okE a b=true):slotT a b=.tuple #[.agg #[.int .i64 (vidW a:Int),.int .u64 (macW a:Nat),.int .i64 ((b % 256:Nat):Int),.bool (decide (b / 256 % 2=1)),.int .u32 ((b / 4294967296:Nat):Int)],.bool true]:=if_pos h
theorem okE_key {a b:Nat} (h:okW a=false):okE a b=false:=by unfold okE; rw [h]; rfl
set_option maxHeartbeats 3200000 in
theorem slot_Of (a b:Nat) (ha:a < 18446744073709551616) (hb:b < 18446744073709551616) (w:World) :
  Calls Try.prog 85 #[.int .u64 (a:Int),.int .u64 (b:Int)] w (Says (slotT a b) w):=by
 have hO:=fun W => key_Of a ha W
 have hno:=@slotT_no a b
 have hyes:=@slotT_yes a b
 have h1:bits .and .u64 (b:Int) 255=((b % 256:Nat):Int):=by
  have:=u64_and_nat b 255 hb (by omega)
  rw [and_255] at this
  exact this
 have h2:bits .and .u64 (b:Int) 256=((b / 256 % 2 * 256:Nat):Int):=by
  have:=u64_and_nat b 256 hb (by omega)
  rw [and_256] at this
  exact this
 have hst:decide (b / 256 % 2=1)=(((b / 256 % 2 * 256:Nat):Int) != 0):=by
  rcases (show b / 256 % 2=0 ∨ b / 256 % 2=1 by omega) with h | h <;> rw [h] <;> rfl
 have h3:(b:Int) / 4294967296=((b / 4294967296:Nat):Int):=by omega
 have hhi:b / 4294967296 < 4294967296:=by omega
 have hlo:b % 256 < 256:=Nat.mod_lt _ (by omega)
 cases hk:okW a
 ·rw [hno (okE_key hk)]
  rw [keyT_no hk] at hO
  have hW:=fun W => slot_Words 0 0 (by decide) ((b % 256:Nat):Int) (((b / 256 % 2 * 256:Nat):Int) != 0) (b / 4294967296) hhi W
  generalize wordA _=ya at hW
  generalize wordB _=yb at hW
  have HW:=Lib.hid hW
  clear hW
  have HO:=Lib.hid hO
  clear hno hyes hO hst
  generalize b % 256=P at *
  generalize b / 4294967296=hi at *
  generalize b / 256 % 2 * 256=X at *
  go_enter Try.func85,Try.ntmps85
  go_wp2_with fail
  refine (HO.out _).mono ?_
  rintro e w1 ⟨rfl,hb⟩
  obtain ⟨hc,hf⟩:=bcell hb
  have r0:w1.cell? ⟨w.heap.size,0,none⟩=some (.int .i64 0):=by rw [hc _ _ (by first | (simp; done) | (simp; omega) | omega)]; first | (simp [go_sem]; done) | assumption
  have r1:w1.cell? ⟨w.heap.size,1,none⟩=some (.int .u64 0):=by rw [hc _ _ (by first | (simp; done) | (simp; omega) | omega)]; first | (simp [go_sem]; done) | assumption
  have r2:w1.cell? ⟨w.heap.size,2,none⟩=some (.int .i64 0):=by rw [hc _ _ (by first | (simp; done) | (simp; omega) | omega)]; first | (simp [go_sem]; done) | assumption
  have r3:w1.cell? ⟨w.heap.size,3,none⟩=some (.bool false):=by rw [hc _ _ (by first | (simp; done) | (simp; omega) | omega)]; first | (simp [go_sem]; done) | assumption
  have r4:w1.cell? ⟨w.heap.size,4,none⟩=some (.int .u32 0):=by rw [hc _ _ (by first | (simp; done) | (simp; omega) | omega)]; first | (simp [go_sem]; done) | assumption
  have g:∀ o,w1.frozen? ⟨w.heap.size,o,none⟩=false:=fun o => by rw [hf _ _ (by first | (simp; done) | (simp; omega) | omega)]; first | (simp [go_sem]; done) | exact gp o
  have hB1:Below w.heap.size w w1:=Below.trans (by (repeat' (first | (with_reducible exact Below.refl _ _) | (with_reducible assumption) | (with_reducible refine Below.setCell ?_ ?_ _) | (with_reducible refine Below.alloc ?_ ?_ _) | (with_reducible refine below_drewN ?_ _) | (with_reducible refine Below.drew ?_) | go_size))) (hb.mono (by go_size))
  have hz1:w.heap.size + 1≤w1.heap.size:=by have:=hb.size; simp at this; omega
  clear hc hf hb
  go_wp2_with fail
  refine (HW.out _).mono ?_
  rintro e w2 ⟨rfl,hb⟩
  obtain ⟨hc,hf⟩:=bcell hb
  have hzz:=hb.size
  simp at hzz
  have y0:w2.cell? ⟨w1.heap.size + 1,0,none⟩=some (.int .i64 0):=by rw [hc _ _ (by first | (simp; done) | (simp; omega) | omega)]; simp [go_sem]
  have y1:w2.cell? ⟨w1.heap.size + 1,1,none⟩=some (.int .u64 0):=by rw [hc _ _ (by first | (simp; done) | (simp; omega) | omega)]; simp [go_sem]
  have y2:w2.cell? ⟨w1.heap.size + 1,2,none⟩=some (.int .i64 (P:Int)):=by rw [hc _ _ (by first | (simp; done) | (simp; omega) | omega)]; simp [go_sem]
  have y3:w2.cell? ⟨w1.heap.size + 1,3,none⟩=some (.bool ((X:Int) != 0)):=by rw [hc _ _ (by first | (simp; done) | (simp; omega) | omega)]; simp [go_sem]
  have y4:w2.cell? ⟨w1.heap.size + 1,4,none⟩=some (.int .u32 (hi:Int)):=by rw [hc _ _ (by first | (simp; done) | (simp; omega) | omega)]; simp [go_sem]
  have hbw:Below w1.heap.size w1 w2:=Below.trans (by (repeat' (first | (with_reducible exact Below.refl _ _) | (with_reducible assumption) | (with_reducible refine Below.setCell ?_ ?_ _) | (with_reducible refine Below.alloc ?_ ?_ _) | (with_reducible refine below_drewN ?_ _) | (with_reducible refine Below.drew ?_) | go_size))) (hb.mono (by go_size))
  clear hc hf hb
  obtain ⟨hc,hf⟩:=bcell hbw
  have s0:=(hc w.heap.size 0 (by omega)).trans r0
  have s1:=(hc w.heap.size 1 (by omega)).trans r1
  have s2:=(hc w.heap.size 2 (by omega)).trans r2
  have s3:=(hc w.heap.size 3 (by omega)).trans r3
  have s4:=(hc w.heap.size 4 (by omega)).trans r4
  have t0:∀ o,w2.frozen? ⟨w.heap.size,o,none⟩=false:=fun o => (hf w.heap.size o (by omega)).trans (g o)
  have hB2:Below w.heap.size w w2:=hB1.trans (hbw.mono (by omega))
  clear hc hf hbw hB1 r0 r1 r2 r3 r4 g
  go_wp2
  exact bodyPost_ret (v:=.tuple #[.agg #[.int .i64 0,.int .u64 0,.int .i64 0,.bool false,.int .u32 0],.bool false]) (by simp [results,Try.results85,go_sem,s0,s1,s2,s3,s4]) rfl ⟨rfl,(by (repeat' (first | (with_reducible exact Below.refl _ _) | (with_reducible assumption) | (with_reducible refine Below.setCell ?_ ?_ _) | (with_reducible refine Below.alloc ?_ ?_ _) | (with_reducible refine below_drewN ?_ _) | (with_reducible refine Below.drew ?_) | go_size)))⟩
 ·rw [keyT_yes hk] at hO
  have hW:=fun W => slot_Words (vidW a:Int) (macW a) (by unfold macW; omega) ((b % 256:Nat):Int) (((b / 256 % 2 * 256:Nat):Int) != 0) (b / 4294967296) hhi W
  have he:=okE_back a b hb hk
  have hen:entW a b=⟨(vidW a:Int),macW a,((b % 256:Nat):Int),(((b / 256 % 2 * 256:Nat):Int) != 0),b / 4294967296⟩:=by rw [← hst]; rfl
  rw [← hen] at hW
  have hyb:okE a b=true→wordB (entW a b)=b:=fun h => by rw [he] at h; exact of_decide_eq_true h
  have hyn:okE a b=false→wordB (entW a b) ≠ b:=fun h => by rw [he] at h; exact of_decide_eq_false h
  generalize wordA (entW a b)=ya at *
  generalize wordB (entW a b)=yb at *
  have HO:=Lib.hid hO
  clear hO he hen
  rw [hst] at hyes
  generalize vidW a=v at *
  generalize macW a=m at *
  cases hk2:okE a b
  ·rw [hno hk2]
   have hne:¬ (yb:Int)=(b:Int):=by have:=hyn hk2; omega
   have HW:=Lib.hid hW
   clear hno hyes hst hyb hyn hk2 hW
   generalize b % 256=P at *
   generalize b / 4294967296=hi at *
   generalize b / 256 % 2 * 256=X at *
   go_enter Try.func85,Try.ntmps85
   go_wp2_with fail
   refine (HO.out _).mono ?_
   rintro e w1 ⟨rfl,hb⟩
   obtain ⟨hc,hf⟩:=bcell hb
   have r0:w1.cell? ⟨w.heap.size,0,none⟩=some (.int .i64 0):=by rw [hc _ _ (by first | (simp; done) | (simp; omega) | omega)]; first | (simp [go_sem]; done) | assumption
   have r1:w1.cell? ⟨w.heap.size,1,none⟩=some (.int .u64 0):=by rw [hc _ _ (by first | (simp; done) | (simp; omega) | omega)]; first | (simp [go_sem]; done) | assumption
   have r2:w1.cell? ⟨w.heap.size,2,none⟩=some (.int .i64 0):=by rw [hc _ _ (by first | (simp; done) | (simp; omega) | omega)]; first | (simp [go_sem]; done) | assumption
   have r3:w1.cell? ⟨w.heap.size,3,none⟩=some (.bool false):=by rw [hc _ _ (by first | (simp; done) | (simp; omega) | omega)]; first | (simp [go_sem]; done) | assumption
   have r4:w1.cell? ⟨w.heap.size,4,none⟩=some (.int .u32 0):=by rw [hc _ _ (by first | (simp; done) | (simp; omega) | omega)]; first | (simp [go_sem]; done) | assumption
   have g:∀ o,w1.frozen? ⟨w.heap.size,o,none⟩=false:=fun o => by rw [hf _ _ (by first | (simp; done) | (simp; omega) | omega)]; first | (simp [go_sem]; done) | exact gp o
   have hB1:Below w.heap.size w w1:=Below.trans (by (repeat' (first | (with_reducible exact Below.refl _ _) | (with_reducible assumption) | (with_reducible refine Below.setCell ?_ ?_ _) | (with_reducible refine Below.alloc ?_ ?_ _) | (with_reducible refine below_drewN ?_ _) | (with_reducible refine Below.drew ?_) | go_size))) (hb.mono (by go_size))
   have hz1:w.heap.size + 1≤w1.heap.size:=by have:=hb.size; simp at this; omega
   clear hc hf hb
   go_wp2_with fail
   refine (HW.out _).mono ?_
   rintro e w2 ⟨rfl,hb⟩
   obtain ⟨hc,hf⟩:=bcell hb
   have hzz:=hb.size
   simp at hzz
   have y0:w2.cell? ⟨w1.heap.size + 1,0,none⟩=some (.int .i64 (v:Int)):=by rw [hc _ _ (by first | (simp; done) | (simp; omega) | omega)]; simp [go_sem]
   have y1:w2.cell? ⟨w1.heap.size + 1,1,none⟩=some (.int .u64 (m:Int)):=by rw [hc _ _ (by first | (simp; done) | (simp; omega) | omega)]; simp [go_sem]
   have y2:w2.cell? ⟨w1.heap.size + 1,2,none⟩=some (.int .i64 (P:Int)):=by rw [hc _ _ (by first | (simp; done) | (simp; omega) | omega)]; simp [go_sem]
   have y3:w2.cell? ⟨w1.heap.size + 1,3,none⟩=some (.bool ((X:Int) != 0)):=by rw [hc _ _ (by first | (simp; done) | (simp; omega) | omega)]; simp [go_sem]
   have y4:w2.cell? ⟨w1.heap.size + 1,4,none⟩=some (.int .u32 (hi:Int)):=by rw [hc _ _ (by first | (simp; done) | (simp; omega) | omega)]; simp [go_sem]
   have hbw:Below w1.heap.size w1 w2:=Below.trans (by (repeat' (first | (with_reducible exact Below.refl _ _) | (with_reducible assumption) | (with_reducible refine Below.setCell ?_ ?_ _) | (with_reducible refine Below.alloc ?_ ?_ _) | (with_reducible refine below_drewN ?_ _) | (with_reducible refine Below.drew ?_) | go_size))) (hb.mono (by go_size))
   clear hc hf hb
   obtain ⟨hc,hf⟩:=bcell hbw
   have s0:=(hc w.heap.size 0 (by omega)).trans r0
   have s1:=(hc w.heap.size 1 (by omega)).trans r1
   have s2:=(hc w.heap.size 2 (by omega)).trans r2
   have s3:=(hc w.heap.size 3 (by omega)).trans r3
   have s4:=(hc w.heap.size 4 (by omega)).trans r4
   have t0:∀ o,w2.frozen? ⟨w.heap.size,o,none⟩=false:=fun o => (hf w.heap.size o (by omega)).trans (g o)
   have hB2:Below w.heap.size w w2:=hB1.trans (hbw.mono (by omega))
   clear hc hf hbw hB1 r0 r1 r2 r3 r4 g
   go_wp2
   exact bodyPost_ret (v:=.tuple #[.agg #[.int .i64 0,.int .u64 0,.int .i64 0,.bool false,.int .u32 0],.bool false]) (by simp [results,Try.results85,go_sem,s0,s1,s2,s3,s4]) rfl ⟨rfl,(by (repeat' (first | (with_reducible exact Below.refl _ _) | (with_reducible assumption) | (with_reducible refine Below.setCell ?_ ?_ _) | (with_reducible refine Below.alloc ?_ ?_ _) | (with_reducible refine below_drewN ?_ _) | (with_reducible refine Below.drew ?_) | go_size)))⟩
  ·rw [hyes hk2]
   rw [hyb hk2] at hW
   have HW:=Lib.hid hW
   clear hno hyes hst hyb hyn hk2 hW
   generalize b % 256=P at *
   generalize b / 4294967296=hi at *
   generalize b / 256 % 2 * 256=X at *
   go_enter Try.func85,Try.ntmps85
   go_wp2_with fail
   refine (HO.out _).mono ?_
   rintro e w1 ⟨rfl,hb⟩
   obtain ⟨hc,hf⟩:=bcell hb
   have r0:w1.cell? ⟨w.heap.size,0,none⟩=some (.int .i64 0):=by rw [hc _ _ (by first | (simp; done) | (simp; omega) | omega)]; first | (simp [go_sem]; done) | assumption
   have r1:w1.cell? ⟨w.heap.size,1,none⟩=some (.int .u64 0):=by rw [hc _ _ (by first | (simp; done) | (simp; omega) | omega)]; first | (simp [go_sem]; done) | assumption
   have r2:w1.cell? ⟨w.heap.size,2,none⟩=some (.int .i64 0):=by rw [hc _ _ (by first | (simp; done) | (simp; omega) | omega)]; first | (simp [go_sem]; done) | assumption
   have r3:w1.cell? ⟨w.heap.size,3,none⟩=some (.bool false):=by rw [hc _ _ (by first | (simp; done) | (simp; omega) | omega)]; first | (simp [go_sem]; done) | assumption
   have r4:w1.cell? ⟨w.heap.size,4,none⟩=some (.int .u32 0):=by rw [hc _ _ (by first | (simp; done) | (simp; omega) | omega)]; first | (simp [go_sem]; done) | assumption
   have g:∀ o,w1.frozen? ⟨w.heap.size,o,none⟩=false:=fun o => by rw [hf _ _ (by first | (simp; done) | (simp; omega) | omega)]; first | (simp [go_sem]; done) | exact gp o
   have hB1:Below w.heap.size w w1:=Below.trans (by (repeat' (first | (with_reducible exact Below.refl _ _) | (with_reducible assumption) | (with_reducible refine Below.setCell ?_ ?_ _) | (with_reducible refine Below.alloc ?_ ?_ _) | (with_reducible refine below_drewN ?_ _) | (with_reducible refine Below.drew ?_) | go_size))) (hb.mono (by go_size))
   have hz1:w.heap.size + 1≤w1.heap.size:=by have:=hb.size; simp at this; omega
   clear hc hf hb
   go_wp2_with fail
   refine (HW.out _).mono ?_
   rintro e w2 ⟨rfl,hb⟩
   obtain ⟨hc,hf⟩:=bcell hb
   have hzz:=hb.size
   simp at hzz
   have y0:w2.cell? ⟨w1.heap.size + 1,0,none⟩=some (.int .i64 (v:Int)):=by rw [hc _ _ (by first | (simp; done) | (simp; omega) | omega)]; simp [go_sem]
   have y1:w2.cell? ⟨w1.heap.size + 1,1,none⟩=some (.int .u64 (m:Int)):=by rw [hc _ _ (by first | (simp; done) | (simp; omega) | omega)]; simp [go_sem]
   have y2:w2.cell? ⟨w1.heap.size + 1,2,none⟩=some (.int .i64 (P:Int)):=by rw [hc _ _ (by first | (simp; done) | (simp; omega) | omega)]; simp [go_sem]
   have y3:w2.cell? ⟨w1.heap.size + 1,3,none⟩=some (.bool ((X:Int) != 0)):=by rw [hc _ _ (by first | (simp; done) | (simp; omega) | omega)]; simp [go_sem]
   have y4:w2.cell? ⟨w1.heap.size + 1,4,none⟩=some (.int .u32 (hi:Int)):=by rw [hc _ _ (by first | (simp; done) | (simp; omega) | omega)]; simp [go_sem]
   have hbw:Below w1.heap.size w1 w2:=Below.trans (by (repeat' (first | (with_reducible exact Below.refl _ _) | (with_reducible assumption) | (with_reducible refine Below.setCell ?_ ?_ _) | (with_reducible refine Below.alloc ?_ ?_ _) | (with_reducible refine below_drewN ?_ _) | (with_reducible refine Below.drew ?_) | go_size))) (hb.mono (by go_size))
   clear hc hf hb
   obtain ⟨hc,hf⟩:=bcell hbw
   have s0:=(hc w.heap.size 0 (by omega)).trans r0
   have s1:=(hc w.heap.size 1 (by omega)).trans r1
   have s2:=(hc w.heap.size 2 (by omega)).trans r2
   have s3:=(hc w.heap.size 3 (by omega)).trans r3
   have s4:=(hc w.heap.size 4 (by omega)).trans r4
   have t0:∀ o,w2.frozen? ⟨w.heap.size,o,none⟩=false:=fun o => (hf w.heap.size o (by omega)).trans (g o)
   have hB2:Below w.heap.size w w2:=hB1.trans (hbw.mono (by omega))
   clear hc hf hbw hB1 r0 r1 r2 r3 r4 g
   go_wp2
   exact bodyPost_ret (v:=.tuple #[.agg #[.int .i64 (v:Int),.int .u64 (m:Int),.int .i64 (P:Int),.bool ((X:Int) != 0),.int .u32 (hi:Int)],.bool true]) (by simp [results,Try.results85,go_sem,s0,s1,s2,s3,s4]) rfl ⟨rfl,(by (repeat' (first | (with_reducible exact Below.refl _ _) | (with_reducible assumption) | (with_reducible refine Below.setCell ?_ ?_ _) | (with_reducible refine Below.alloc ?_ ?_ _) | (with_reducible refine below_drewN ?_ _) | (with_reducible refine Below.drew ?_) | go_size)))⟩
end Go.Proofs.Ythloabdfkakehaa
