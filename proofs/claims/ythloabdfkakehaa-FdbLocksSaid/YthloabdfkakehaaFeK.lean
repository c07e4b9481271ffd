/-
  Words and contracts that a statement's proof rests on (FeG, FeK). No statement is proved here.
-/
import Derived.Test.YthloabdfkakehaaBkE
import Derived.Test.YthloabdfkakehaaFeA
set_option linter.unusedVariables false
set_option linter.unusedSimpArgs false
namespace Go.Proofs.Ythloabdfkakehaa
section
open Go.RowKit
theorem rightS_nat {S B n:Nat} (hS:1≤S∧S≤8) (hB:1≤B∧B≤16) (hn:1≤n∧n≤8):rightS (S:Int) (B:Int) (n:Int)=true:=by
 unfold rightS inB
 simp
 omega
set_option maxHeartbeats 800000 in
theorem fdb_rightTries (t:Int) (w:World):Calls Try.prog 44 #[.int .i64 t] w fun e w' => e=.returned (.bool (inB t 8))∧w=w':=by
 unfold inB
 by_cases h:1≤t
 ·have d:decide (1≤t)=true:=by simpa using h
  rw [d]
  by_cases h2:t≤8
  ·have d2:decide (t≤8)=true:=by simpa using h2
   rw [d2]
   clear d d2
   go_enter Try.func44,Try.ntmps44
   go_wp2
   go_ret
   exact ⟨by simp,rfl⟩
  ·have d2:decide (t≤8)=false:=by simpa using h2
   rw [d2]
   clear d d2
   go_enter Try.func44,Try.ntmps44
   go_wp2
   go_ret
   exact ⟨by simp,rfl⟩
 ·have d:decide (1≤t)=false:=by simpa using h
  rw [d]
  clear d
  go_enter Try.func44,Try.ntmps44
  go_wp2
  go_ret
  exact ⟨by simp,rfl⟩
def withinI (first:Int) (count have_:Nat):Bool:=decide (0≤first) && decide (first≤(have_:Int) - (count:Int))
set_option maxHeartbeats 800000 in
theorem fdb_within (first:Int) (count have_:Nat) (hc:count≤1048576) (hh:have_≤1048576) (w:World):Calls Try.prog 45 #[.int .i64 first,.int .i64 (count:Nat),.int .i64 (have_:Nat)] w fun e w' => e=.returned (.bool (withinI first count have_))∧w=w':=by
 unfold withinI
 obtain ⟨D,hD⟩:∃ D,D=(have_:Int) - (count:Int):=⟨_,rfl⟩
 have x1:wrap64 ((have_:Int) - (count:Int))=D:=by rw [hD]; exact IntWalk.wrap64_in _ (by omega)
 have x2:IntKind.i64.wrap ((have_:Int) - (count:Int))=D:=by rw [hD]; exact IntWalk.i64_in _ (by clear x1; omega)
 rw [← hD]
 clear hD hc hh
 by_cases h:0≤first
 ·have d:decide (0≤first)=true:=by simpa using h
  rw [d]
  by_cases h2:first≤D
  ·have d2:decide (first≤D)=true:=by simpa using h2
   rw [d2]
   clear d d2
   go_enter Try.func45,Try.ntmps45
   go_wp2
   go_ret
   exact ⟨by simp,rfl⟩
  ·have d2:decide (first≤D)=false:=by simpa using h2
   rw [d2]
   clear d d2
   go_enter Try.func45,Try.ntmps45
   go_wp2
   go_ret
   exact ⟨by simp,rfl⟩
 ·have d:decide (0≤first)=false:=by simpa using h
  rw [d]
  clear d
  go_enter Try.func45,Try.ntmps45
  go_wp2
  go_ret
  exact ⟨by simp,rfl⟩
set_option maxHeartbeats 1600000 in
theorem fdb_CellsY (S B n:Nat) (hS:1≤S∧S≤8) (hB:1≤B∧B≤16) (hn:1≤n∧n≤8) (w:World) :
  Calls Try.prog 12 #[.agg #[.int .i64 (S:Nat),.int .i64 (B:Nat),.int .i64 (n:Nat)]] w (Says (.int .i64 ((S * B * (1 + 2 * n):Nat):Int)) w):=by
 have hr:=rightS_nat hS hB hn
 have HR:=Lib.hid fun W => book_Right (S:Int) (B:Int) (n:Int) W
 rw [hr] at HR
 have HWD:=Lib.hid fun W => fdb_wide S B n (by omega) W
 obtain ⟨V,hV⟩:∃ V,V=1 + 2 * n:=⟨_,rfl⟩
 rw [← hV] at HWD ⊢
 obtain ⟨J,hJ⟩:∃ J,J=S * B:=⟨_,rfl⟩
 obtain ⟨K,hK⟩:∃ K,K=J * V:=⟨_,rfl⟩
 have hJ2:J≤128:=by rw [hJ]; exact Nat.mul_le_mul hS.2 hB.2
 have hK2:K≤2176:=by rw [hK]; exact Nat.mul_le_mul hJ2 (show V≤17 by omega)
 have z1:wrap64 ((S:Int) * (B:Int))=(J:Int)∧IntKind.i64.wrap ((S:Int) * (B:Int))=(J:Int):=by
  rw [← Int.natCast_mul,← hJ]
  exact ⟨IntWalk.wrap64_in _ (by omega),IntWalk.i64_in _ (by omega)⟩
 have z2:wrap64 ((J:Int) * (V:Int))=(K:Int)∧IntKind.i64.wrap ((J:Int) * (V:Int))=(K:Int):=by
  rw [← Int.natCast_mul,← hK]
  exact ⟨IntWalk.wrap64_in _ (by clear z1; omega),IntWalk.i64_in _ (by clear z1; omega)⟩
 rw [← hJ,← hK]
 obtain ⟨x1,x2⟩:=z1
 obtain ⟨x3,x4⟩:=z2
 clear hr hV hJ hK hJ2 hK2 hS hB hn
 go_enter Try.func12,Try.ntmps12
 go_wp2_with (first
  | go_big_skip
  | (go_at_call 43; (with_reducible refine Calls.mono (HR.out _) ?_); rintro e w1 ⟨rfl,hb1⟩; have HB1:=Lib.hid (((Below.refl w.heap.size w).alloc (Nat.le_refl _) _).trans (hb1.mono (by simp))); have c0:w1.cell? ⟨w.heap.size,0,none⟩=some (.int .i64 (S:Nat)):=(hb1.cell (p:=⟨w.heap.size,0,none⟩) (by simp)).trans (by simp [go_sem]); have c1:w1.cell? ⟨w.heap.size,1,none⟩=some (.int .i64 (B:Nat)):=(hb1.cell (p:=⟨w.heap.size,1,none⟩) (by simp)).trans (by simp [go_sem]); have c2:w1.cell? ⟨w.heap.size,2,none⟩=some (.int .i64 (n:Nat)):=(hb1.cell (p:=⟨w.heap.size,2,none⟩) (by simp)).trans (by simp [go_sem]); have hlt9:w.heap.size < w1.heap.size:=Nat.lt_of_lt_of_le (by simp) hb1.size; clear hb1)
  | fail)
 have HC9:=Lib.hid fun q W (hb:Below (w1.drewN q).heap.size (w1.drewN q) W) => show (W.cell? ⟨w.heap.size,0,none⟩=some (.int .i64 (S:Nat))∧W.cell? ⟨w.heap.size,1,none⟩=some (.int .i64 (B:Nat))∧W.cell? ⟨w.heap.size,2,none⟩=some (.int .i64 (n:Nat)))∧Below w.heap.size w W from ⟨⟨(hb.cell (p:=⟨w.heap.size,0,none⟩) hlt9).trans c0,(hb.cell (p:=⟨w.heap.size,1,none⟩) hlt9).trans c1,(hb.cell (p:=⟨w.heap.size,2,none⟩) hlt9).trans c2⟩,(below_drewN HB1.out q).trans (hb.mono HB1.out.size)⟩
 go_region_held3 (fun w' => w'.cell? ⟨w.heap.size,0,none⟩=some (.int .i64 (S:Nat))∧w'.cell? ⟨w.heap.size,1,none⟩=some (.int .i64 (B:Nat))∧w'.cell? ⟨w.heap.size,2,none⟩=some (.int .i64 (n:Nat))) (first | exact HB2.out.1 | exact ⟨c0,c1,c2⟩ | go_keep) (first
  | (go_at_call 48; (with_reducible refine Calls.mono (HWD.out _) ?_); rintro e w2 ⟨rfl,hb2⟩; have HB2:=Lib.hid (HC9.out _ _ hb2); clear hb2))
 go_wp2
 go_ret
 exact ⟨by first | rfl | (simp; done),HB2.out.2⟩
set_option maxHeartbeats 1600000 in
theorem fdb_LocksY (S B n:Nat) (hS:1≤S∧S≤8) (hB:1≤B∧B≤16) (hn:1≤n∧n≤8) (w:World) :
  Calls Try.prog 13 #[.agg #[.int .i64 (S:Nat),.int .i64 (B:Nat),.int .i64 (n:Nat)]] w (Says (.int .i64 (S:Nat)) w):=by
 have hr:=rightS_nat hS hB hn
 have HR:=Lib.hid fun W => book_Right (S:Int) (B:Int) (n:Int) W
 rw [hr] at HR
 clear hr hS hB hn
 go_enter Try.func13,Try.ntmps13
 go_wp2_with (first
  | go_big_skip
  | (go_at_call 43; (with_reducible refine Calls.mono (HR.out _) ?_); rintro e w1 ⟨rfl,hb1⟩; have HB1:=Lib.hid (((Below.refl w.heap.size w).alloc (Nat.le_refl _) _).trans (hb1.mono (by simp))); have c0:w1.cell? ⟨w.heap.size,0,none⟩=some (.int .i64 (S:Nat)):=(hb1.cell (p:=⟨w.heap.size,0,none⟩) (by simp)).trans (by simp [go_sem]); clear hb1)
  | fail)
 go_wp2
 go_ret
 exact ⟨rfl,HB1.out⟩
end
section
open Go.RowKit
theorem wr_ok {e:Int} {k:Nat} (h:e=(k:Int)) (hk:k≤1000000):wrap64 e=(k:Int)∧IntKind.i64.wrap e=(k:Int):=by
 subst h
 exact ⟨IntWalk.wrap64_in _ (by omega),IntWalk.i64_in _ (by omega)⟩
set_option maxHeartbeats 1600000 in
theorem ref12_CellsY (S B n:Nat) (hS:1≤S∧S≤8) (hB:1≤B∧B≤16) (hn:1≤n∧n≤8) (w:World) :
  Calls Try.prog 10 #[.agg #[.int .i64 (S:Nat),.int .i64 (B:Nat),.int .i64 (n:Nat)]] w (Says (.int .i64 ((S * B * (1 + 2 * n):Nat):Int)) w):=by
 have hr:=rightS_nat hS hB hn
 have HR:=Lib.hid fun W => ref11_Right (S:Int) (B:Int) (n:Int) W
 rw [hr] at HR
 obtain ⟨J,hJ⟩:∃ J:Nat,J=S * B:=⟨_,rfl⟩
 obtain ⟨Q,hQ⟩:∃ Q:Nat,Q=2 * n:=⟨_,rfl⟩
 obtain ⟨V,hV⟩:∃ V:Nat,V=1 + Q:=⟨_,rfl⟩
 obtain ⟨K,hK⟩:∃ K:Nat,K=J * V:=⟨_,rfl⟩
 have bJ:J≤128:=by rw [hJ]; exact Nat.mul_le_mul hS.2 hB.2
 have bQ:Q≤16:=by rw [hQ]; exact Nat.mul_le_mul_left 2 hn.2
 have bV:V≤17:=by rw [hV]; exact by omega
 have bK:K≤2176:=by rw [hK]; exact Nat.mul_le_mul bJ bV
 have he:S * B * (1 + 2 * n)=K:=by rw [hK,hV,hQ,hJ]
 rw [he]
 have z1:=wr_ok (e:=(S:Int) * (B:Int)) (k:=J) (by rw [hJ]; simp) (Nat.le_trans bJ (by decide))
 have z2:=wr_ok (e:=2 * (n:Int)) (k:=Q) (by rw [hQ]; simp) (Nat.le_trans bQ (by decide))
 have z3:=wr_ok (e:=1 + (Q:Int)) (k:=V) (by rw [hV]; simp) (Nat.le_trans bV (by decide))
 have z4:=wr_ok (e:=(J:Int) * (V:Int)) (k:=K) (by rw [hK]; simp) (Nat.le_trans bK (by decide))
 obtain ⟨x1,x2⟩:=z1
 obtain ⟨x3,x4⟩:=z2
 obtain ⟨x5,x6⟩:=z3
 obtain ⟨x7,x8⟩:=z4
 clear hr hJ hQ hV hK bJ bQ bV bK he hS hB hn
 go_enter Try.func10,Try.ntmps10
 go_wp2_with (first
  | go_big_skip
  | (go_at_call 9; (with_reducible refine Calls.mono (HR.out _) ?_); rintro e w1 ⟨rfl,hb1⟩; have HB1:=Lib.hid (((Below.refl w.heap.size w).alloc (Nat.le_refl _) _).trans (hb1.mono (by simp))); have c0:w1.cell? ⟨w.heap.size,0,none⟩=some (.int .i64 (S:Nat)):=(hb1.cell (p:=⟨w.heap.size,0,none⟩) (by simp)).trans (by simp [go_sem]); have c1:w1.cell? ⟨w.heap.size,1,none⟩=some (.int .i64 (B:Nat)):=(hb1.cell (p:=⟨w.heap.size,1,none⟩) (by simp)).trans (by simp [go_sem]); have c2:w1.cell? ⟨w.heap.size,2,none⟩=some (.int .i64 (n:Nat)):=(hb1.cell (p:=⟨w.heap.size,2,none⟩) (by simp)).trans (by simp [go_sem]); clear hb1)
  | fail)
 go_wp2
 go_ret
 exact ⟨rfl,HB1.out⟩
set_option maxHeartbeats 3200000 in
theorem ref12_BoundY (S B n:Nat) (hS:1≤S∧S≤8) (hB:1≤B∧B≤16) (hn:1≤n∧n≤8) (t:Nat) (ht:1≤t∧t≤8) (w:World) :
  Calls Try.prog 15 #[.agg #[.int .i64 (S:Nat),.int .i64 (B:Nat),.int .i64 (n:Nat)],.int .i64 (t:Nat)] w (Says (.int .i64 ((16 + t * (4 + 4 * n) + S * (4 + B * (8 + 8 * n)):Nat):Int)) w):=by
 have hr:=rightS_nat hS hB hn
 have HR:=Lib.hid fun W => ref11_Right (S:Int) (B:Int) (n:Int) W
 rw [hr] at HR
 have d1:decide ((t:Int) < 1)=false:=by simp; omega
 have d2:decide ((t:Int) > 8)=false:=by simp; omega
 have d3:decide (8 < (t:Int))=false:=by simp; omega
 obtain ⟨P1,hP1⟩:∃ P1:Nat,P1=4 * n:=⟨_,rfl⟩
 obtain ⟨P2,hP2⟩:∃ P2:Nat,P2=4 + P1:=⟨_,rfl⟩
 obtain ⟨P3,hP3⟩:∃ P3:Nat,P3=t * P2:=⟨_,rfl⟩
 obtain ⟨P4,hP4⟩:∃ P4:Nat,P4=16 + P3:=⟨_,rfl⟩
 obtain ⟨Q1,hQ1⟩:∃ Q1:Nat,Q1=8 * n:=⟨_,rfl⟩
 obtain ⟨Q2,hQ2⟩:∃ Q2:Nat,Q2=8 + Q1:=⟨_,rfl⟩
 obtain ⟨Q3,hQ3⟩:∃ Q3:Nat,Q3=B * Q2:=⟨_,rfl⟩
 obtain ⟨Q4,hQ4⟩:∃ Q4:Nat,Q4=4 + Q3:=⟨_,rfl⟩
 obtain ⟨Q5,hQ5⟩:∃ Q5:Nat,Q5=S * Q4:=⟨_,rfl⟩
 obtain ⟨K,hK⟩:∃ K:Nat,K=P4 + Q5:=⟨_,rfl⟩
 have bP1:P1≤32:=by rw [hP1]; exact Nat.mul_le_mul_left 4 hn.2
 have bP2:P2≤36:=by rw [hP2]; exact by omega
 have bP3:P3≤288:=by rw [hP3]; exact Nat.mul_le_mul ht.2 bP2
 have bP4:P4≤304:=by rw [hP4]; exact by omega
 have bQ1:Q1≤64:=by rw [hQ1]; exact Nat.mul_le_mul_left 8 hn.2
 have bQ2:Q2≤72:=by rw [hQ2]; exact by omega
 have bQ3:Q3≤1152:=by rw [hQ3]; exact Nat.mul_le_mul hB.2 bQ2
 have bQ4:Q4≤1156:=by rw [hQ4]; exact by omega
 have bQ5:Q5≤9248:=by rw [hQ5]; exact Nat.mul_le_mul hS.2 bQ4
 have bK:K≤9552:=by rw [hK]; exact by omega
 have he:16 + t * (4 + 4 * n) + S * (4 + B * (8 + 8 * n))=K:=by rw [hK,hP4,hP3,hP2,hP1,hQ5,hQ4,hQ3,hQ2,hQ1]
 rw [he]
 have z0:=wr_ok (e:=4 * (n:Int)) (k:=P1) (by rw [hP1]; simp) (Nat.le_trans bP1 (by decide))
 have z1:=wr_ok (e:=4 + (P1:Int)) (k:=P2) (by rw [hP2]; simp) (Nat.le_trans bP2 (by decide))
 have z2:=wr_ok (e:=(t:Int) * (P2:Int)) (k:=P3) (by rw [hP3]; simp) (Nat.le_trans bP3 (by decide))
 have z3:=wr_ok (e:=16 + (P3:Int)) (k:=P4) (by rw [hP4]; simp) (Nat.le_trans bP4 (by decide))
 have z4:=wr_ok (e:=8 * (n:Int)) (k:=Q1) (by rw [hQ1]; simp) (Nat.le_trans bQ1 (by decide))
 have z5:=wr_ok (e:=8 + (Q1:Int)) (k:=Q2) (by rw [hQ2]; simp) (Nat.le_trans bQ2 (by decide))
 have z6:=wr_ok (e:=(B:Int) * (Q2:Int)) (k:=Q3) (by rw [hQ3]; simp) (Nat.le_trans bQ3 (by decide))
 have z7:=wr_ok (e:=4 + (Q3:Int)) (k:=Q4) (by rw [hQ4]; simp) (Nat.le_trans bQ4 (by decide))
 have z8:=wr_ok (e:=(S:Int) * (Q4:Int)) (k:=Q5) (by rw [hQ5]; simp) (Nat.le_trans bQ5 (by decide))
 have z9:=wr_ok (e:=(P4:Int) + (Q5:Int)) (k:=K) (by rw [hK]; simp) (Nat.le_trans bK (by decide))
 obtain ⟨x0,x1⟩:=z0
 obtain ⟨x2,x3⟩:=z1
 obtain ⟨x4,x5⟩:=z2
 obtain ⟨x6,x7⟩:=z3
 obtain ⟨x8,x9⟩:=z4
 obtain ⟨x10,x11⟩:=z5
 obtain ⟨x12,x13⟩:=z6
 obtain ⟨x14,x15⟩:=z7
 obtain ⟨x16,x17⟩:=z8
 obtain ⟨x18,x19⟩:=z9
 clear hr hP1 hP2 hP3 hP4 hQ1 hQ2 hQ3 hQ4 hQ5 hK bP1 bP2 bP3 bP4 bQ1 bQ2 bQ3 bQ4 bQ5 bK he hS hB hn ht
 go_enter Try.func15,Try.ntmps15
 go_wp2_with (first
  | go_big_skip
  | (go_at_call 9; (with_reducible refine Calls.mono (HR.out _) ?_); rintro e w1 ⟨rfl,hb1⟩; have HB1:=Lib.hid (((Below.refl w.heap.size w).alloc (Nat.le_refl _) _).trans (hb1.mono (by simp))); have c0:w1.cell? ⟨w.heap.size,0,none⟩=some (.int .i64 (S:Nat)):=(hb1.cell (p:=⟨w.heap.size,0,none⟩) (by simp)).trans (by simp [go_sem]); have c1:w1.cell? ⟨w.heap.size,1,none⟩=some (.int .i64 (B:Nat)):=(hb1.cell (p:=⟨w.heap.size,1,none⟩) (by simp)).trans (by simp [go_sem]); have c2:w1.cell? ⟨w.heap.size,2,none⟩=some (.int .i64 (n:Nat)):=(hb1.cell (p:=⟨w.heap.size,2,none⟩) (by simp)).trans (by simp [go_sem]); clear hb1)
  | fail)
 go_wp2
 go_ret
 exact ⟨rfl,HB1.out⟩
end
end Go.Proofs.Ythloabdfkakehaa
