/-
  Words and contracts that a statement's proof rests on (FgF, FeH, MemD, FeJ). No statement is proved here.
-/
import Derived.BigRegion
import Derived.Test.YthloabdfkakehaaGreatMemB
import Derived.Test.YthloabdfkakehaaGreatKeep
import Derived.Test.YthloabdfkakehaaGreatKeyR
import Derived.Test.YthloabdfkakehaaGreatFdX
import Derived.Test.YthloabdfkakehaaGreatFeI
import Derived.Test.YthloabdfkakehaaGreatOpen
set_option linter.unusedVariables false
set_option linter.unusedSimpArgs false
namespace Go.Proofs.YthloabdfkakehaaGreat
section
open Go.RowKit
theorem fix_sizeK (x:Int) (k:Nat) (hk:1≤k) (hk2:k≤16):∃ S:Nat,1≤S∧S≤k∧wrap64 (1 + wrap64 ((IntKind.u64.wrap x).tmod (k:Int)))=(S:Int):=by
 have h1:0≤IntKind.u64.wrap x:=by rw [IntKind.wrap_u64]; omega
 rw [Int.tmod_eq_emod_of_nonneg h1]
 have a1:=Int.emod_nonneg (IntKind.u64.wrap x) (show (k:Int) ≠ 0 by omega)
 have a2:=Int.emod_lt_of_pos (IntKind.u64.wrap x) (show 0 < (k:Int) by omega)
 generalize IntKind.u64.wrap x % (k:Int)=y at *
 refine ⟨(1 + y).toNat,by omega,by omega,?_⟩
 rw [IntWalk.wrap64_in y (by omega),IntWalk.wrap64_in _ (by omega)]
 omega
theorem port64K (x:Int):∃ P:Nat,P < 64∧wrap64 ((IntKind.u64.wrap x).tmod 64)=(P:Int)∧IntKind.i64.wrap ((IntKind.u64.wrap x).tmod 64)=(P:Int):=by
 have h1:0≤IntKind.u64.wrap x:=by rw [IntKind.wrap_u64]; omega
 rw [Int.tmod_eq_emod_of_nonneg h1]
 refine ⟨(IntKind.u64.wrap x % 64).toNat,by omega,?_,?_⟩
 ·rw [IntWalk.wrap64_in _ (by omega)]; omega
 ·rw [IntWalk.i64_in _ (by omega)]; omega
set_option maxHeartbeats 1600000 in
theorem ref11_FixK (a b c:Int) (S B n:Nat) (h1:wrap64 (1 + wrap64 ((IntKind.u64.wrap a).tmod ((8:Nat):Int)))=(S:Int)) (h2:wrap64 (1 + wrap64 ((IntKind.u64.wrap b).tmod ((16:Nat):Int)))=(B:Int)) (h3:wrap64 (1 + wrap64 ((IntKind.u64.wrap c).tmod ((8:Nat):Int)))=(n:Int)) (w:World) :
  Calls Tryz.prog 42 #[.agg #[.int .i64 a,.int .i64 b,.int .i64 c]] w (Says (.agg #[.int .i64 (S:Nat),.int .i64 (B:Nat),.int .i64 (n:Nat)]) w):=by
 rw [show ((8:Nat):Int)=8 from rfl] at h1 h3
 rw [show ((16:Nat):Int)=16 from rfl] at h2
 go_enter Tryz.func42,Tryz.ntmps42
 go_wp2
 exact bodyPost_ret (v:=.agg #[.int .i64 (S:Nat),.int .i64 (B:Nat),.int .i64 (n:Nat)]) (by simp [results,Tryz.results42,go_sem]) rfl ⟨rfl,(by (repeat' (first | (with_reducible exact Below.refl _ _) | (with_reducible refine Below.setCell ?_ ?_ _) | (with_reducible refine Below.alloc ?_ ?_ _) | go_size)))⟩
end
section
open Go.RowKit
section
variable {w:World}
end
end
section
open Go.RowKit
def newS (C L:Nat):MemS:=⟨C,L,fun _ => 0,fun _ => -1,0⟩
def newK (C L k:Nat):MemS:=⟨C,L,fun _ => 0,fun j => if j < k then -1 else 0,0⟩
theorem stU64s:ST Tryz.prog 107 38 (.int .u64 0) 1 8:=ST.mk Tryz.underlying107 (by kernel_rfl) rfl (by omega) (by omega)
theorem newK_succ (C L k:Nat):putL (newK C L k) k (-1)=newK C L (k + 1):=by
 unfold putL newK
 congr 1
 funext j
 show (if j=k then (-1:Int) else if j < k then -1 else 0)=if j < k + 1 then -1 else 0
 by_cases h:j=k
 ·simp [h]
 ·by_cases h2:j < k
  ·simp [h,h2,show j < k + 1 by omega]
  ·simp [h,h2,show ¬ j < k + 1 by omega]
theorem MemIn.newS {w:World} {T:TypeId} {lo b bc bl C L:Nat} (h:MemIn w T lo b bc bl (newK C L L)):MemIn w T lo b bc bl (newS C L) :=
 { h with
  own:=h.own.congr fun i hi => by
   match i,hi with
   | 0,_ => rfl
   | 1,_ => rfl
   | 2,_ => rfl
  locks:=h.locks.congr fun i hi => by
   have hi2:i < L:=hi
   show Value.int .i64 (if i < L then -1 else 0)=_
   rw [if_pos hi2]; rfl
  hh:=fun l => Int.le_refl _ }
theorem new_A (w:World) (T:TypeId) (C L:Nat) (hC:C≤1048576) (hL:L≤128) :
  MemIn (((w.alloc (.cells (mkC (.int .u64 0) 1 C) 38)).alloc (.cells (mkC (.int .i64 0) 1 L) 3)).alloc (.cells #[.slice (some ⟨w.heap.size,0,none⟩) C C,.slice (some ⟨w.heap.size + 1,0,none⟩) L L,.int .i64 0] T)).drew T w.heap.size (w.heap.size + 1 + 1) w.heap.size (w.heap.size + 1) (newK C L 0):=by
 have r1:=rowIs_mk (w:=w) (g:=w.heap.size) (M:=C) (z:=.int .u64 0) (e:=38) rfl rfl
 have r2:=rowIs_mk (w:=w.alloc (.cells (mkC (.int .u64 0) 1 C) 38)) (g:=w.heap.size + 1) (M:=L) (z:=.int .i64 0) (e:=3) rfl (by simp)
 have r3:=World.rowIs_alloc ((w.alloc (.cells (mkC (.int .u64 0) 1 C) 38)).alloc (.cells (mkC (.int .i64 0) 1 L) 3)) #[.slice (some ⟨w.heap.size,0,none⟩) C C,.slice (some ⟨w.heap.size + 1,0,none⟩) L L,.int .i64 0] T (memF w.heap.size (w.heap.size + 1) (newK C L 0)) (fun i hi => by
  match i,hi with
  | 0,_ => rfl
  | 1,_ => rfl
  | 2,_ => rfl)
 exact
 {
  b1:=by omega
  b2:=by omega
  c1:=Nat.le_refl _
  c2:=by omega
  l1:=by omega
  l2:=by omega
  n1:=by omega
  n2:=by omega
  n3:=by omega
  own:=by simpa using r3.drew
  cells:=((r1.alloc _).alloc _).drew
  locks:=(r2.alloc _).drew.congr fun i hi => by simp [newK]
  t0:=Int.le_refl _
  hh:=fun l => by show (-1:Int)≤if l < 0 then -1 else 0; simp
  cb:=hC
  lb:=hL }
theorem new_B (w:World) (T:TypeId) (C L:Nat) (hC:C≤1048576) (hL:L≤128) :
  MemIn (((w.alloc (.cells (mkC (.int .i64 0) 1 L) 3)).alloc (.cells (mkC (.int .u64 0) 1 C) 38)).alloc (.cells #[.slice (some ⟨w.heap.size + 1,0,none⟩) C C,.slice (some ⟨w.heap.size,0,none⟩) L L,.int .i64 0] T)).drew T w.heap.size (w.heap.size + 1 + 1) (w.heap.size + 1) w.heap.size (newK C L 0):=by
 have r1:=rowIs_mk (w:=w) (g:=w.heap.size) (M:=L) (z:=.int .i64 0) (e:=3) rfl rfl
 have r2:=rowIs_mk (w:=w.alloc (.cells (mkC (.int .i64 0) 1 L) 3)) (g:=w.heap.size + 1) (M:=C) (z:=.int .u64 0) (e:=38) rfl (by simp)
 have r3:=World.rowIs_alloc ((w.alloc (.cells (mkC (.int .i64 0) 1 L) 3)).alloc (.cells (mkC (.int .u64 0) 1 C) 38)) #[.slice (some ⟨w.heap.size + 1,0,none⟩) C C,.slice (some ⟨w.heap.size,0,none⟩) L L,.int .i64 0] T (memF (w.heap.size + 1) w.heap.size (newK C L 0)) (fun i hi => by
  match i,hi with
  | 0,_ => rfl
  | 1,_ => rfl
  | 2,_ => rfl)
 exact
 {
  b1:=by omega
  b2:=by omega
  c1:=by omega
  c2:=by omega
  l1:=Nat.le_refl _
  l2:=by omega
  n1:=by omega
  n2:=by omega
  n3:=by omega
  own:=by simpa using r3.drew
  cells:=(r2.alloc _).drew
  locks:=((r1.alloc _).alloc _).drew.congr fun i hi => by simp [newK]
  t0:=Int.le_refl _
  hh:=fun l => by show (-1:Int)≤if l < 0 then -1 else 0; simp
  cb:=hC
  lb:=hL }
set_option maxHeartbeats 1600000 in
theorem mem_New (C L:Nat) (hC:1≤C∧C≤1048576) (hL:L≤128) (w:World) :
  Calls Tryz.prog 43 #[.int .i64 (C:Int),.int .i64 (L:Int)] w fun e w' => ∃ b,e=.returned (.tuple #[.pointer (some ⟨b,0,none⟩),.int .i64 0])∧MemAt w' 112 w.heap.size b (newS C L)∧Below w.heap.size w w':=by
 have hm1:=fun W => run_mkFull (P:=Tryz.prog) W stU64s C (by omega)
 have hm2:=fun W => run_mkFull (P:=Tryz.prog) W stInts L (by omega)
 have FA:=Lib.hid (new_A w 112 C L hC.2 hL)
 have FB:=Lib.hid (new_B w 112 C L hC.2 hL)
 have hL1:=hL
 have h1:decide ((C:Int) < 1)=false:=by simp; omega
 have h2:decide ((C:Int) > 1048576)=false:=by simp; omega
 have h3:decide ((L:Int) < 0)=false:=by simp
 have h4:decide ((L:Int) > 128)=false:=by simp; omega
 have h2':decide (1048576 < (C:Int))=false:=by simp; omega
 have h4':decide (128 < (L:Int))=false:=by simp; omega
 have HWB:Hid (∀ o1 o2 o3,Below w.heap.size w (((w.alloc o1).alloc o2).alloc o3).drew):=fun o1 o2 o3 => ((((Below.refl _ _).alloc (Nat.le_refl _) _).alloc (by simp) _).alloc (by simp; omega) _).drew
 go_enter Tryz.func43,Tryz.ntmps43
 go_wp2
 clear h1 h2 h3 h4 h2' h4'
 go_region
 ·obtain ⟨w1,hw1⟩:∃ w1,w1=(((w.alloc (.cells (mkC (.int .u64 0) 1 C) 38)).alloc (.cells (mkC (.int .i64 0) 1 L) 3)).alloc (.cells #[.slice (some ⟨w.heap.size,0,none⟩) C C,.slice (some ⟨w.heap.size + 1,0,none⟩) L L,.int .i64 0] 112)).drew:=⟨_,rfl⟩
  have HF:=FA.out
  have HB2:Below w.heap.size w w1:=by rw [hw1]; exact HWB.out _ _ _
  rw [← hw1] at HF ⊢
  clear hm1 hm2 FA FB hw1 HWB
  obtain ⟨b,hb⟩:∃ b,b=w.heap.size + 1 + 1:=⟨_,rfl⟩
  rw [← hb] at HF ⊢
  clear hb
  obtain ⟨bc,hbc⟩:∃ bc,bc=w.heap.size:=⟨_,rfl⟩
  obtain ⟨bl,hbl⟩:∃ bl,bl=w.heap.size + 1:=⟨_,rfl⟩
  have HF:MemIn w1 112 w.heap.size b bc bl (newK C L 0):=by rw [hbc,hbl]; exact HF
  clear hbc hbl
  obtain ⟨g0,g1,g2,g3⟩:=HF.at_
  change w1.cell? ⟨b,1,none⟩=some (.slice (some ⟨bl,0,none⟩) L L) at g1
  have HF0:=Lib.hid HF
  have HB0:=Lib.hid HB2
  clear HF HB2 g0 g2 g3
  go_wp2
  clear g1
  go_loopw [33] (fun i wr => ∃ k:Nat,k≤L∧i=.int .i64 k∧Hid (MemIn wr 112 w.heap.size b bc bl (newK C L k))∧Hid (Below w.heap.size w wr)) (fun i _ => L - (intOf i).toNat)
  case atStart => exact ⟨0,by omega,rfl,HF0.out,HB0.out⟩
  case round =>
   obtain ⟨k,hk,rfl,HR,HB⟩:=hrel
   obtain ⟨g0,g1,g2,g3⟩:=HR.out.at_
   change wr.cell? ⟨b,1,none⟩=some (.slice (some ⟨bl,0,none⟩) L L) at g1
   clear g0 g2 g3
   by_cases hlt:k < L
   ·have hk1:(k:Int) < (L:Int):=by omega
    have hk0:(0:Int)≤(k:Int):=Int.natCast_nonneg _
    obtain ⟨hc1,hc2⟩:=HR.out.l_at (k:=k) hlt
    have HR2:=Lib.hid (newK_succ C L k ▸ HR.out.putL k (-1) (by omega))
    have HBB:=Lib.hid (HB.out.setCell (p:=⟨bl,k,none⟩) HR.out.l1 (.int .i64 (-1)))
    clear HR HB
    go_wp2
    clear g1 hc1 hc2
    go_roundw
    case rel => exact ⟨k + 1,by omega,by go_num,HR2.out,HBB.out⟩
    case measure => simp [intOf]; omega
   ·have:k=L:=by omega
    subst this
    go_wp2
    go_ret2
    exact ⟨b,rfl,⟨bc,bl,HR.out.newS⟩,HB.out⟩
 ·obtain ⟨w1,hw1⟩:∃ w1,w1=(((w.alloc (.cells (mkC (.int .i64 0) 1 L) 3)).alloc (.cells (mkC (.int .u64 0) 1 C) 38)).alloc (.cells #[.slice (some ⟨w.heap.size + 1,0,none⟩) C C,.slice (some ⟨w.heap.size,0,none⟩) L L,.int .i64 0] 112)).drew:=⟨_,rfl⟩
  have HF:=FB.out
  have HB2:Below w.heap.size w w1:=by rw [hw1]; exact HWB.out _ _ _
  rw [← hw1] at HF ⊢
  clear hm1 hm2 FA FB hw1 HWB
  obtain ⟨b,hb⟩:∃ b,b=w.heap.size + 1 + 1:=⟨_,rfl⟩
  rw [← hb] at HF ⊢
  clear hb
  obtain ⟨bc,hbc⟩:∃ bc,bc=w.heap.size + 1:=⟨_,rfl⟩
  obtain ⟨bl,hbl⟩:∃ bl,bl=w.heap.size:=⟨_,rfl⟩
  have HF:MemIn w1 112 w.heap.size b bc bl (newK C L 0):=by rw [hbc,hbl]; exact HF
  clear hbc hbl
  obtain ⟨g0,g1,g2,g3⟩:=HF.at_
  change w1.cell? ⟨b,1,none⟩=some (.slice (some ⟨bl,0,none⟩) L L) at g1
  have HF0:=Lib.hid HF
  have HB0:=Lib.hid HB2
  clear HF HB2 g0 g2 g3
  go_wp2
  clear g1
  go_loopw [33] (fun i wr => ∃ k:Nat,k≤L∧i=.int .i64 k∧Hid (MemIn wr 112 w.heap.size b bc bl (newK C L k))∧Hid (Below w.heap.size w wr)) (fun i _ => L - (intOf i).toNat)
  case atStart => exact ⟨0,by omega,rfl,HF0.out,HB0.out⟩
  case round =>
   obtain ⟨k,hk,rfl,HR,HB⟩:=hrel
   obtain ⟨g0,g1,g2,g3⟩:=HR.out.at_
   change wr.cell? ⟨b,1,none⟩=some (.slice (some ⟨bl,0,none⟩) L L) at g1
   clear g0 g2 g3
   by_cases hlt:k < L
   ·have hk1:(k:Int) < (L:Int):=by omega
    have hk0:(0:Int)≤(k:Int):=Int.natCast_nonneg _
    obtain ⟨hc1,hc2⟩:=HR.out.l_at (k:=k) hlt
    have HR2:=Lib.hid (newK_succ C L k ▸ HR.out.putL k (-1) (by omega))
    have HBB:=Lib.hid (HB.out.setCell (p:=⟨bl,k,none⟩) HR.out.l1 (.int .i64 (-1)))
    clear HR HB
    go_wp2
    clear g1 hc1 hc2
    go_roundw
    case rel => exact ⟨k + 1,by omega,by go_num,HR2.out,HBB.out⟩
    case measure => simp [intOf]; omega
   ·have:k=L:=by omega
    subst this
    go_wp2
    go_ret2
    exact ⟨b,rfl,⟨bc,bl,HR.out.newS⟩,HB.out⟩
end
section
open Go.RowKit
section
variable {w:World} {lo b:Nat} {m:MemS}
theorem newF_atJ {W:World} {lo b:Nat} {m:MemS} {F:FcS} (hm:MemAt W 112 lo b m) (hF:FFit F m.C m.L) (hlo:lo + 3≤W.heap.size) :
  FdbAt (W.alloc (.cells #[.pointer (some ⟨b,0,none⟩),.int .i64 (F.ba:Nat),.int .i64 (F.lk:Nat),.int .i64 (F.S:Nat),.int .i64 (F.B:Nat),.int .i64 (F.n:Nat),.int .i64 (F.tr:Nat)] 142)) lo b W.heap.size F m where
 mem:=hm.below ((Below.refl _ _).alloc (Nat.le_refl _) _)
 row:=World.rowIs_alloc W #[.pointer (some ⟨b,0,none⟩),.int .i64 (F.ba:Nat),.int .i64 (F.lk:Nat),.int .i64 (F.S:Nat),.int .i64 (F.B:Nat),.int .i64 (F.n:Nat),.int .i64 (F.tr:Nat)] 142 (fdbF b F) (fun i hi => by
  match i,hi with
  | 0,_ => rfl
  | 1,_ => rfl
  | 2,_ => rfl
  | 3,_ => rfl
  | 4,_ => rfl
  | 5,_ => rfl
  | 6,_ => rfl
  | _ + 7,hh => exact absurd hh (by simp))
 out:=hlo
 fits:=hF
set_option maxRecDepth 20000 in
set_option maxHeartbeats 3200000 in
theorem fdb_NewY (hm:MemAt w 112 lo b m) (F:FcS) (hF:FFit F m.C m.L) (hlo:lo + 3≤w.heap.size) :
  Calls Tryz.prog 45 #[.pointer (some ⟨b,0,none⟩),.int .i64 (F.ba:Nat),.int .i64 (F.lk:Nat),.agg #[.int .i64 (F.S:Nat),.int .i64 (F.B:Nat),.int .i64 (F.n:Nat)],.int .i64 (F.tr:Nat)] w fun e w' => ∃ fb,e=.returned (.tuple #[.pointer (some ⟨fb,0,none⟩),.int .i64 0])∧w.heap.size≤fb∧FdbAt w' lo b fb F m∧Below w.heap.size w w':=by
 have HFN:=Lib.hid fun W (hb:Below w.heap.size w W) => newF_atJ (hm.below hb) hF (Nat.le_trans hlo hb.size)
 have HR:=Lib.hid fun W => book_Right (F.S:Int) (F.B:Int) (F.n:Int) W
 rw [rightS_nat hF.S hF.B hF.n] at HR
 have HT:=Lib.hid fun W => fdb_rightTries (F.tr:Int) W
 rw [show inB (F.tr:Int) 8=true by have:=hF.tr; unfold inB; simp; omega] at HT
 have HC:=Lib.hid fun W => fdb_CellsY F.S F.B F.n hF.S hF.B hF.n W
 have HL:=Lib.hid fun W => fdb_LocksY F.S F.B F.n hF.S hF.B hF.n W
 have hall:=hF.all
 have hc:=hF.c
 have hl:=hF.l
 have hC:=hF.C
 have hL:=hF.L
 rw [show F.S * F.B * (1 + 2 * F.n)=F.S * F.B * F.W from rfl] at HC
 generalize F.S * F.B * F.W=CE at *
 have HW1:=Lib.hid fun W => fdb_within (F.ba:Int) CE m.C (by omega) (by omega) W
 rw [show withinI (F.ba:Int) CE m.C=true by unfold withinI; simp; omega] at HW1
 have HW2:=Lib.hid fun W => fdb_within (F.lk:Int) F.S m.L (by omega) (by omega) W
 rw [show withinI (F.lk:Int) F.S m.L=true by unfold withinI; simp; omega] at HW2
 have HMC:=Lib.hid fun W (hb:Below w.heap.size w W) => mem_Cells (hm.below hb)
 have HML:=Lib.hid fun W (hb:Below w.heap.size w W) => mem_Locks (hm.below hb)
 obtain ⟨ba,lk,S,B,n,tr⟩:=F
 clear hm hF hlo hall hc hl hC hL
 dsimp only at *
 go_enter Tryz.func45,Tryz.ntmps45
 go_wp2_with (first
  | go_big_skip
  | (go_at_call 84; (with_reducible refine Calls.mono (HR.out _) ?_); rintro e w1 ⟨rfl,hb1⟩; have HB1:=Lib.hid (((Below.refl w.heap.size w).alloc (Nat.le_refl _) _).trans (hb1.mono (by simp))); have c0:w1.cell? ⟨w.heap.size,0,none⟩=some (.int .i64 (S:Nat)):=(hb1.cell (p:=⟨w.heap.size,0,none⟩) (by simp)).trans (by simp [go_sem]); have c1:w1.cell? ⟨w.heap.size,1,none⟩=some (.int .i64 (B:Nat)):=(hb1.cell (p:=⟨w.heap.size,1,none⟩) (by simp)).trans (by simp [go_sem]); have c2:w1.cell? ⟨w.heap.size,2,none⟩=some (.int .i64 (n:Nat)):=(hb1.cell (p:=⟨w.heap.size,2,none⟩) (by simp)).trans (by simp [go_sem]); have hlt9:w.heap.size < w1.heap.size:=Nat.lt_of_lt_of_le (by simp) hb1.size; clear hb1)
  | (go_at_call 85; (with_reducible refine Calls.mono (HT.out _) ?_); rintro e w9 ⟨rfl,rfl⟩)
  | (go_at_call 47; (with_reducible refine Calls.mono (HC.out _) ?_); rintro e w2 ⟨rfl,hb⟩; have HB2:=Lib.hid (HB1.out.trans (hb.mono HB1.out.size)); have d0:w2.cell? ⟨w.heap.size,0,none⟩=some (.int .i64 (S:Nat)):=(hb.cell (p:=⟨w.heap.size,0,none⟩) hlt9).trans c0; have d1:w2.cell? ⟨w.heap.size,1,none⟩=some (.int .i64 (B:Nat)):=(hb.cell (p:=⟨w.heap.size,1,none⟩) hlt9).trans c1; have d2:w2.cell? ⟨w.heap.size,2,none⟩=some (.int .i64 (n:Nat)):=(hb.cell (p:=⟨w.heap.size,2,none⟩) hlt9).trans c2; have hlt9:w.heap.size < w2.heap.size:=Nat.lt_of_lt_of_le hlt9 hb.size; clear c0 c1 c2; clear hb)
  | (go_at_call 87; (with_reducible refine Calls.mono (HMC.out _ HB2.out) ?_); rintro e w9 ⟨rfl,rfl⟩)
  | (go_at_call 86; (with_reducible refine Calls.mono (HW1.out _) ?_); rintro e w9 ⟨rfl,rfl⟩)
  | (go_at_call 48; (with_reducible refine Calls.mono (HL.out _) ?_); rintro e w3 ⟨rfl,hb⟩; have HB3:=Lib.hid (HB2.out.trans (hb.mono HB2.out.size)); have e0:w3.cell? ⟨w.heap.size,0,none⟩=some (.int .i64 (S:Nat)):=(hb.cell (p:=⟨w.heap.size,0,none⟩) hlt9).trans d0; have e1:w3.cell? ⟨w.heap.size,1,none⟩=some (.int .i64 (B:Nat)):=(hb.cell (p:=⟨w.heap.size,1,none⟩) hlt9).trans d1; have e2:w3.cell? ⟨w.heap.size,2,none⟩=some (.int .i64 (n:Nat)):=(hb.cell (p:=⟨w.heap.size,2,none⟩) hlt9).trans d2; clear d0 d1 d2 hb)
  | (go_at_call 88; (with_reducible refine Calls.mono (HML.out _ HB3.out) ?_); rintro e w9 ⟨rfl,rfl⟩)
  | (go_at_call 86; (with_reducible refine Calls.mono (HW2.out _) ?_); rintro e w9 ⟨rfl,rfl⟩)
  | fail)
 go_wp2
 go_ret2
 exact ⟨w3.heap.size,rfl,HB3.out.size,HFN.out w3 HB3.out,HB3.out.alloc HB3.out.size _⟩
end
end
end Go.Proofs.YthloabdfkakehaaGreat
