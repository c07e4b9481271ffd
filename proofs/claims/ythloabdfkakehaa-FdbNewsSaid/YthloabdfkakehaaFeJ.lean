/-
  Words and contracts that a statement's proof rests on (FeJ). No statement is proved here.
-/
import Derived.Test.YthloabdfkakehaaFdX
import Derived.Test.YthloabdfkakehaaFeH
import Derived.Test.YthloabdfkakehaaMemD
set_option linter.unusedVariables false
set_option linter.unusedSimpArgs false
namespace Go.Proofs.Ythloabdfkakehaa
open Go.RowKit
section
variable {w:World} {lo b:Nat} {m:MemS}
theorem newF_at {W:World} {lo b:Nat} {m:MemS} {F:FcS} (hm:MemAt W 82 lo b m) (hF:FFit F m.C m.L) (hlo:lo + 3≤W.heap.size) :
  FdbAt (W.alloc (.cells #[.pointer (some ⟨b,0,none⟩),.int .i64 (F.ba:Nat),.int .i64 (F.lk:Nat),.int .i64 (F.S:Nat),.int .i64 (F.B:Nat),.int .i64 (F.n:Nat),.int .i64 (F.tr:Nat)] 86)) lo b W.heap.size F m where
 mem:=hm.below ((Below.refl _ _).alloc (Nat.le_refl _) _)
 row:=World.rowIs_alloc W #[.pointer (some ⟨b,0,none⟩),.int .i64 (F.ba:Nat),.int .i64 (F.lk:Nat),.int .i64 (F.S:Nat),.int .i64 (F.B:Nat),.int .i64 (F.n:Nat),.int .i64 (F.tr:Nat)] 86 (fdbF b F) (fun i hi => by
  match i,hi with
  | 0,_ => rfl
  | 1,_ => rfl
  | 2,_ => rfl
  | 3,_ => rfl
  | 4,_ => rfl
  | 5,_ => rfl
  | 6,_ => rfl
  | _ + 7,hh => exact absurd hh (by simp))
 out:=hlo
 fits:=hF
set_option maxRecDepth 20000 in
set_option maxHeartbeats 3200000 in
theorem fdb_NewY (hm:MemAt w 82 lo b m) (F:FcS) (hF:FFit F m.C m.L) (hlo:lo + 3≤w.heap.size) :
  Calls Try.prog 7 #[.pointer (some ⟨b,0,none⟩),.int .i64 (F.ba:Nat),.int .i64 (F.lk:Nat),.agg #[.int .i64 (F.S:Nat),.int .i64 (F.B:Nat),.int .i64 (F.n:Nat)],.int .i64 (F.tr:Nat)] w fun e w' => ∃ fb,e=.returned (.tuple #[.pointer (some ⟨fb,0,none⟩),.int .i64 0])∧w.heap.size≤fb∧FdbAt w' lo b fb F m∧Below w.heap.size w w':=by
 have HFN:=Lib.hid fun W (hb:Below w.heap.size w W) => newF_at (hm.below hb) hF (Nat.le_trans hlo hb.size)
 have HR:=Lib.hid fun W => book_Right (F.S:Int) (F.B:Int) (F.n:Int) W
 rw [rightS_nat hF.S hF.B hF.n] at HR
 have HT:=Lib.hid fun W => fdb_rightTries (F.tr:Int) W
 rw [show inB (F.tr:Int) 8=true by have:=hF.tr; unfold inB; simp; omega] at HT
 have HC:=Lib.hid fun W => fdb_CellsY F.S F.B F.n hF.S hF.B hF.n W
 have HL:=Lib.hid fun W => fdb_LocksY F.S F.B F.n hF.S hF.B hF.n W
 have hall:=hF.all
 have hc:=hF.c
 have hl:=hF.l
 have hC:=hF.C
 have hL:=hF.L
 rw [show F.S * F.B * (1 + 2 * F.n)=F.S * F.B * F.W from rfl] at HC
 generalize F.S * F.B * F.W=CE at *
 have HW1:=Lib.hid fun W => fdb_within (F.ba:Int) CE m.C (by omega) (by omega) W
 rw [show withinI (F.ba:Int) CE m.C=true by unfold withinI; simp; omega] at HW1
 have HW2:=Lib.hid fun W => fdb_within (F.lk:Int) F.S m.L (by omega) (by omega) W
 rw [show withinI (F.lk:Int) F.S m.L=true by unfold withinI; simp; omega] at HW2
 have HMC:=Lib.hid fun W (hb:Below w.heap.size w W) => mem_Cells (hm.below hb)
 have HML:=Lib.hid fun W (hb:Below w.heap.size w W) => mem_Locks (hm.below hb)
 obtain ⟨ba,lk,S,B,n,tr⟩:=F
 clear hm hF hlo hall hc hl hC hL
 dsimp only at *
 go_enter Try.func7,Try.ntmps7
 go_wp2_with (first
  | go_big_skip
  | (go_at_call 43; (with_reducible refine Calls.mono (HR.out _) ?_); rintro e w1 ⟨rfl,hb1⟩; have HB1:=Lib.hid (((Below.refl w.heap.size w).alloc (Nat.le_refl _) _).trans (hb1.mono (by simp))); have c0:w1.cell? ⟨w.heap.size,0,none⟩=some (.int .i64 (S:Nat)):=(hb1.cell (p:=⟨w.heap.size,0,none⟩) (by simp)).trans (by simp [go_sem]); have c1:w1.cell? ⟨w.heap.size,1,none⟩=some (.int .i64 (B:Nat)):=(hb1.cell (p:=⟨w.heap.size,1,none⟩) (by simp)).trans (by simp [go_sem]); have c2:w1.cell? ⟨w.heap.size,2,none⟩=some (.int .i64 (n:Nat)):=(hb1.cell (p:=⟨w.heap.size,2,none⟩) (by simp)).trans (by simp [go_sem]); have hlt9:w.heap.size < w1.heap.size:=Nat.lt_of_lt_of_le (by simp) hb1.size; clear hb1)
  | (go_at_call 44; (with_reducible refine Calls.mono (HT.out _) ?_); rintro e w9 ⟨rfl,rfl⟩)
  | (go_at_call 12; (with_reducible refine Calls.mono (HC.out _) ?_); rintro e w2 ⟨rfl,hb⟩; have HB2:=Lib.hid (HB1.out.trans (hb.mono HB1.out.size)); have d0:w2.cell? ⟨w.heap.size,0,none⟩=some (.int .i64 (S:Nat)):=(hb.cell (p:=⟨w.heap.size,0,none⟩) hlt9).trans c0; have d1:w2.cell? ⟨w.heap.size,1,none⟩=some (.int .i64 (B:Nat)):=(hb.cell (p:=⟨w.heap.size,1,none⟩) hlt9).trans c1; have d2:w2.cell? ⟨w.heap.size,2,none⟩=some (.int .i64 (n:Nat)):=(hb.cell (p:=⟨w.heap.size,2,none⟩) hlt9).trans c2; have hlt9:w.heap.size < w2.heap.size:=Nat.lt_of_lt_of_le hlt9 hb.size; clear c0 c1 c2; clear hb)
  | (go_at_call 46; (with_reducible refine Calls.mono (HMC.out _ HB2.out) ?_); rintro e w9 ⟨rfl,rfl⟩)
  | (go_at_call 45; (with_reducible refine Calls.mono (HW1.out _) ?_); rintro e w9 ⟨rfl,rfl⟩)
  | (go_at_call 13; (with_reducible refine Calls.mono (HL.out _) ?_); rintro e w3 ⟨rfl,hb⟩; have HB3:=Lib.hid (HB2.out.trans (hb.mono HB2.out.size)); have e0:w3.cell? ⟨w.heap.size,0,none⟩=some (.int .i64 (S:Nat)):=(hb.cell (p:=⟨w.heap.size,0,none⟩) hlt9).trans d0; have e1:w3.cell? ⟨w.heap.size,1,none⟩=some (.int .i64 (B:Nat)):=(hb.cell (p:=⟨w.heap.size,1,none⟩) hlt9).trans d1; have e2:w3.cell? ⟨w.heap.size,2,none⟩=some (.int .i64 (n:Nat)):=(hb.cell (p:=⟨w.heap.size,2,none⟩) hlt9).trans d2; clear d0 d1 d2 hb)
  | (go_at_call 47; (with_reducible refine Calls.mono (HML.out _ HB3.out) ?_); rintro e w9 ⟨rfl,rfl⟩)
  | (go_at_call 45; (with_reducible refine Calls.mono (HW2.out _) ?_); rintro e w9 ⟨rfl,rfl⟩)
  | fail)
 go_wp2
 go_ret2
 exact ⟨w3.heap.size,rfl,HB3.out.size,HFN.out w3 HB3.out,HB3.out.alloc HB3.out.size _⟩
def badNew (a b c t base lock:Int) (C L:Nat):Prop:=rightS a b c=false ∨ inB t 8=false ∨ (∃ S B n:Nat,a=S∧b=B∧c=n∧(1≤S∧S≤8)∧(1≤B∧B≤16)∧(1≤n∧n≤8)∧inB t 8=true∧(withinI base (S * B * (1 + 2 * n)) C=false ∨ (withinI base (S * B * (1 + 2 * n)) C=true∧withinI lock S L=false)))
set_option maxRecDepth 20000 in
set_option maxHeartbeats 6400000 in
theorem fdb_NewN (hm:MemAt w 82 lo b m) (hC:m.C≤1048576) (hL:m.L≤128) (a b' c t base lock:Int) (hno:badNew a b' c t base lock m.C m.L) :
  Calls Try.prog 7 #[.pointer (some ⟨b,0,none⟩),.int .i64 base,.int .i64 lock,.agg #[.int .i64 a,.int .i64 b',.int .i64 c],.int .i64 t] w (Says (.tuple #[.pointer none,.int .i64 1]) w):=by
 have HMC:=Lib.hid fun W (hb:Below w.heap.size w W) => mem_Cells (hm.below hb)
 have HML:=Lib.hid fun W (hb:Below w.heap.size w W) => mem_Locks (hm.below hb)
 have HT:=Lib.hid fun W => fdb_rightTries t W
 have HR:=Lib.hid fun W => book_Right a b' c W
 by_cases h1:rightS a b' c=false
 ·rw [h1] at HR
  clear hm hno h1
  go_enter Try.func7,Try.ntmps7
  go_wp2_with (first
   | go_big_skip
   | (go_at_call 43; (with_reducible refine Calls.mono (HR.out _) ?_); rintro e w1 ⟨rfl,hb1⟩; have HB1:=Lib.hid (((Below.refl w.heap.size w).alloc (Nat.le_refl _) _).trans (hb1.mono (by simp))); clear hb1)
   | fail)
  go_wp2
  go_ret2
  exact ⟨rfl,HB1.out⟩
 have h1:rightS a b' c=true:=by simpa using h1
 rw [h1] at HR
 by_cases h2:inB t 8=false
 ·rw [h2] at HT
  clear hm hno h1 h2
  go_enter Try.func7,Try.ntmps7
  go_wp2_with (first
   | go_big_skip
   | (go_at_call 43; (with_reducible refine Calls.mono (HR.out _) ?_); rintro e w1 ⟨rfl,hb1⟩; have HB1:=Lib.hid (((Below.refl w.heap.size w).alloc (Nat.le_refl _) _).trans (hb1.mono (by simp))); clear hb1)
   | (go_at_call 44; (with_reducible refine Calls.mono (HT.out _) ?_); rintro e w9 ⟨rfl,rfl⟩)
   | fail)
  go_wp2
  go_ret2
  exact ⟨rfl,HB1.out⟩
 have h2:inB t 8=true:=by simpa using h2
 rw [h2] at HT
 obtain ⟨S,B,n,rfl,rfl,rfl,hS,hB,hn,_,h9⟩:∃ S B n:Nat,a=S∧b'=B∧c=n∧(1≤S∧S≤8)∧(1≤B∧B≤16)∧(1≤n∧n≤8)∧inB t 8=true∧(withinI base (S * B * (1 + 2 * n)) m.C=false ∨ (withinI base (S * B * (1 + 2 * n)) m.C=true∧withinI lock S m.L=false)):=by
  rcases hno with h | h | h
  ·rw [h1] at h; cases h
  ·rw [h2] at h; cases h
  ·exact h
 have HC:=Lib.hid fun W => fdb_CellsY S B n hS hB hn W
 have HL:=Lib.hid fun W => fdb_LocksY S B n hS hB hn W
 have hce:S * B * (1 + 2 * n)≤2176:=Nat.mul_le_mul (Nat.mul_le_mul hS.2 hB.2:S * B≤128) (show 1 + 2 * n≤17 by omega)
 have HW1:=Lib.hid fun W => fdb_within base (S * B * (1 + 2 * n)) m.C (by omega) (by omega) W
 have HW2:=Lib.hid fun W => fdb_within lock S m.L (by omega) (by omega) W
 generalize S * B * (1 + 2 * n)=CE at *
 rcases h9 with h9 | ⟨h8,h9⟩
 ·rw [h9] at HW1
  clear hm hno h1 h2 h9 hS hB hn hce hC hL
  go_enter Try.func7,Try.ntmps7
  go_wp2_with (first
   | go_big_skip
   | (go_at_call 43; (with_reducible refine Calls.mono (HR.out _) ?_); rintro e w1 ⟨rfl,hb1⟩; have HB1:=Lib.hid (((Below.refl w.heap.size w).alloc (Nat.le_refl _) _).trans (hb1.mono (by simp))); have c0:w1.cell? ⟨w.heap.size,0,none⟩=some (.int .i64 (S:Nat)):=(hb1.cell (p:=⟨w.heap.size,0,none⟩) (by simp)).trans (by simp [go_sem]); have c1:w1.cell? ⟨w.heap.size,1,none⟩=some (.int .i64 (B:Nat)):=(hb1.cell (p:=⟨w.heap.size,1,none⟩) (by simp)).trans (by simp [go_sem]); have c2:w1.cell? ⟨w.heap.size,2,none⟩=some (.int .i64 (n:Nat)):=(hb1.cell (p:=⟨w.heap.size,2,none⟩) (by simp)).trans (by simp [go_sem]); have hlt9:w.heap.size < w1.heap.size:=Nat.lt_of_lt_of_le (by simp) hb1.size; clear hb1)
   | (go_at_call 44; (with_reducible refine Calls.mono (HT.out _) ?_); rintro e w9 ⟨rfl,rfl⟩)
   | (go_at_call 12; (with_reducible refine Calls.mono (HC.out _) ?_); rintro e w2 ⟨rfl,hb⟩; have HB2:=Lib.hid (HB1.out.trans (hb.mono HB1.out.size)); have d0:w2.cell? ⟨w.heap.size,0,none⟩=some (.int .i64 (S:Nat)):=(hb.cell (p:=⟨w.heap.size,0,none⟩) hlt9).trans c0; have d1:w2.cell? ⟨w.heap.size,1,none⟩=some (.int .i64 (B:Nat)):=(hb.cell (p:=⟨w.heap.size,1,none⟩) hlt9).trans c1; have d2:w2.cell? ⟨w.heap.size,2,none⟩=some (.int .i64 (n:Nat)):=(hb.cell (p:=⟨w.heap.size,2,none⟩) hlt9).trans c2; have hlt9:w.heap.size < w2.heap.size:=Nat.lt_of_lt_of_le hlt9 hb.size; clear c0 c1 c2; clear hb)
   | (go_at_call 46; (with_reducible refine Calls.mono (HMC.out _ HB2.out) ?_); rintro e w9 ⟨rfl,rfl⟩)
   | (go_at_call 45; (with_reducible refine Calls.mono (HW1.out _) ?_); rintro e w9 ⟨rfl,rfl⟩)
   | fail)
  go_wp2
  go_ret2
  exact ⟨rfl,HB2.out⟩
 ·rw [h8] at HW1
  rw [h9] at HW2
  clear hm hno h1 h2 h8 h9 hS hB hn hce hC hL
  go_enter Try.func7,Try.ntmps7
  go_wp2_with (first
   | go_big_skip
   | (go_at_call 43; (with_reducible refine Calls.mono (HR.out _) ?_); rintro e w1 ⟨rfl,hb1⟩; have HB1:=Lib.hid (((Below.refl w.heap.size w).alloc (Nat.le_refl _) _).trans (hb1.mono (by simp))); have c0:w1.cell? ⟨w.heap.size,0,none⟩=some (.int .i64 (S:Nat)):=(hb1.cell (p:=⟨w.heap.size,0,none⟩) (by simp)).trans (by simp [go_sem]); have c1:w1.cell? ⟨w.heap.size,1,none⟩=some (.int .i64 (B:Nat)):=(hb1.cell (p:=⟨w.heap.size,1,none⟩) (by simp)).trans (by simp [go_sem]); have c2:w1.cell? ⟨w.heap.size,2,none⟩=some (.int .i64 (n:Nat)):=(hb1.cell (p:=⟨w.heap.size,2,none⟩) (by simp)).trans (by simp [go_sem]); have hlt9:w.heap.size < w1.heap.size:=Nat.lt_of_lt_of_le (by simp) hb1.size; clear hb1)
   | (go_at_call 44; (with_reducible refine Calls.mono (HT.out _) ?_); rintro e w9 ⟨rfl,rfl⟩)
   | (go_at_call 12; (with_reducible refine Calls.mono (HC.out _) ?_); rintro e w2 ⟨rfl,hb⟩; have HB2:=Lib.hid (HB1.out.trans (hb.mono HB1.out.size)); have d0:w2.cell? ⟨w.heap.size,0,none⟩=some (.int .i64 (S:Nat)):=(hb.cell (p:=⟨w.heap.size,0,none⟩) hlt9).trans c0; have d1:w2.cell? ⟨w.heap.size,1,none⟩=some (.int .i64 (B:Nat)):=(hb.cell (p:=⟨w.heap.size,1,none⟩) hlt9).trans c1; have d2:w2.cell? ⟨w.heap.size,2,none⟩=some (.int .i64 (n:Nat)):=(hb.cell (p:=⟨w.heap.size,2,none⟩) hlt9).trans c2; have hlt9:w.heap.size < w2.heap.size:=Nat.lt_of_lt_of_le hlt9 hb.size; clear c0 c1 c2; clear hb)
   | (go_at_call 46; (with_reducible refine Calls.mono (HMC.out _ HB2.out) ?_); rintro e w9 ⟨rfl,rfl⟩)
   | (go_at_call 45; (with_reducible refine Calls.mono (HW1.out _) ?_); rintro e w9 ⟨rfl,rfl⟩)
   | (go_at_call 13; (with_reducible refine Calls.mono (HL.out _) ?_); rintro e w3 ⟨rfl,hb⟩; have HB3:=Lib.hid (HB2.out.trans (hb.mono HB2.out.size)); have e0:w3.cell? ⟨w.heap.size,0,none⟩=some (.int .i64 (S:Nat)):=(hb.cell (p:=⟨w.heap.size,0,none⟩) hlt9).trans d0; have e1:w3.cell? ⟨w.heap.size,1,none⟩=some (.int .i64 (B:Nat)):=(hb.cell (p:=⟨w.heap.size,1,none⟩) hlt9).trans d1; have e2:w3.cell? ⟨w.heap.size,2,none⟩=some (.int .i64 (n:Nat)):=(hb.cell (p:=⟨w.heap.size,2,none⟩) hlt9).trans d2; clear d0 d1 d2 hb)
   | (go_at_call 47; (with_reducible refine Calls.mono (HML.out _ HB3.out) ?_); rintro e w9 ⟨rfl,rfl⟩)
   | (go_at_call 45; (with_reducible refine Calls.mono (HW2.out _) ?_); rintro e w9 ⟨rfl,rfl⟩)
   | fail)
  go_wp2
  go_ret2
  exact ⟨rfl,HB3.out⟩
set_option maxHeartbeats 800000 in
theorem fdb_NewNil (a b' c t base lock:Int) :
  Calls Try.prog 7 #[.pointer none,.int .i64 base,.int .i64 lock,.agg #[.int .i64 a,.int .i64 b',.int .i64 c],.int .i64 t] w (Says (.tuple #[.pointer none,.int .i64 1]) w):=by
 go_enter Try.func7,Try.ntmps7
 go_wp2_with (first
  | go_big_skip
  | fail)
 go_wp2
 go_ret2
 exact ⟨rfl,by first | exact (Below.refl _ _).alloc (Nat.le_refl _) _ | exact below_drewN ((Below.refl _ _).alloc (Nat.le_refl _) _) _⟩
end
end Go.Proofs.Ythloabdfkakehaa
