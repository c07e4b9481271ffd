/-
  Words and contracts that a statement's proof rests on (MemD). No statement is proved here.
-/
import Derived.BigRegion
import Derived.Test.YthloabdfkakehaaPlainRg
import Derived.Test.YthloabdfkakehaaFgS
set_option linter.unusedVariables false
set_option linter.unusedSimpArgs false
namespace Go.Proofs.Ythloabdfkakehaa
open Go.RowKit
def newS (C L:Nat):MemS:=⟨C,L,fun _ => 0,fun _ => -1,0⟩
def newK (C L k:Nat):MemS:=⟨C,L,fun _ => 0,fun j => if j < k then -1 else 0,0⟩
theorem stU64s:ST Try.prog 80 44 (.int .u64 0) 1 8:=ST.mk Try.underlying80 (by kernel_rfl) rfl (by omega) (by omega)
theorem newK_succ (C L k:Nat):putL (newK C L k) k (-1)=newK C L (k + 1):=by
 unfold putL newK
 congr 1
 funext j
 show (if j=k then (-1:Int) else if j < k then -1 else 0)=if j < k + 1 then -1 else 0
 by_cases h:j=k
 ·simp [h]
 ·by_cases h2:j < k
  ·simp [h,h2,show j < k + 1 by omega]
  ·simp [h,h2,show ¬ j < k + 1 by omega]
theorem MemIn.newS {w:World} {T:TypeId} {lo b bc bl C L:Nat} (h:MemIn w T lo b bc bl (newK C L L)):MemIn w T lo b bc bl (newS C L) :=
 { h with
  own:=h.own.congr fun i hi => by
   match i,hi with
   | 0,_ => rfl
   | 1,_ => rfl
   | 2,_ => rfl
  locks:=h.locks.congr fun i hi => by
   have hi2:i < L:=hi
   show Value.int .i64 (if i < L then -1 else 0)=_
   rw [if_pos hi2]; rfl
  hh:=fun l => Int.le_refl _ }
theorem new_A (w:World) (T:TypeId) (C L:Nat) (hC:C≤1048576) (hL:L≤128) :
  MemIn (((w.alloc (.cells (mkC (.int .u64 0) 1 C) 44)).alloc (.cells (mkC (.int .i64 0) 1 L) 3)).alloc (.cells #[.slice (some ⟨w.heap.size,0,none⟩) C C,.slice (some ⟨w.heap.size + 1,0,none⟩) L L,.int .i64 0] T)).drew T w.heap.size (w.heap.size + 1 + 1) w.heap.size (w.heap.size + 1) (newK C L 0):=by
 have r1:=rowIs_mk (w:=w) (g:=w.heap.size) (M:=C) (z:=.int .u64 0) (e:=44) rfl rfl
 have r2:=rowIs_mk (w:=w.alloc (.cells (mkC (.int .u64 0) 1 C) 44)) (g:=w.heap.size + 1) (M:=L) (z:=.int .i64 0) (e:=3) rfl (by simp)
 have r3:=World.rowIs_alloc ((w.alloc (.cells (mkC (.int .u64 0) 1 C) 44)).alloc (.cells (mkC (.int .i64 0) 1 L) 3)) #[.slice (some ⟨w.heap.size,0,none⟩) C C,.slice (some ⟨w.heap.size + 1,0,none⟩) L L,.int .i64 0] T (memF w.heap.size (w.heap.size + 1) (newK C L 0)) (fun i hi => by
  match i,hi with
  | 0,_ => rfl
  | 1,_ => rfl
  | 2,_ => rfl)
 exact
 {
  b1:=by omega
  b2:=by omega
  c1:=Nat.le_refl _
  c2:=by omega
  l1:=by omega
  l2:=by omega
  n1:=by omega
  n2:=by omega
  n3:=by omega
  own:=by simpa using r3.drew
  cells:=((r1.alloc _).alloc _).drew
  locks:=(r2.alloc _).drew.congr fun i hi => by simp [newK]
  t0:=Int.le_refl _
  hh:=fun l => by show (-1:Int)≤if l < 0 then -1 else 0; simp
  cb:=hC
  lb:=hL }
theorem new_B (w:World) (T:TypeId) (C L:Nat) (hC:C≤1048576) (hL:L≤128) :
  MemIn (((w.alloc (.cells (mkC (.int .i64 0) 1 L) 3)).alloc (.cells (mkC (.int .u64 0) 1 C) 44)).alloc (.cells #[.slice (some ⟨w.heap.size + 1,0,none⟩) C C,.slice (some ⟨w.heap.size,0,none⟩) L L,.int .i64 0] T)).drew T w.heap.size (w.heap.size + 1 + 1) (w.heap.size + 1) w.heap.size (newK C L 0):=by
 have r1:=rowIs_mk (w:=w) (g:=w.heap.size) (M:=L) (z:=.int .i64 0) (e:=3) rfl rfl
 have r2:=rowIs_mk (w:=w.alloc (.cells (mkC (.int .i64 0) 1 L) 3)) (g:=w.heap.size + 1) (M:=C) (z:=.int .u64 0) (e:=44) rfl (by simp)
 have r3:=World.rowIs_alloc ((w.alloc (.cells (mkC (.int .i64 0) 1 L) 3)).alloc (.cells (mkC (.int .u64 0) 1 C) 44)) #[.slice (some ⟨w.heap.size + 1,0,none⟩) C C,.slice (some ⟨w.heap.size,0,none⟩) L L,.int .i64 0] T (memF (w.heap.size + 1) w.heap.size (newK C L 0)) (fun i hi => by
  match i,hi with
  | 0,_ => rfl
  | 1,_ => rfl
  | 2,_ => rfl)
 exact
 {
  b1:=by omega
  b2:=by omega
  c1:=by omega
  c2:=by omega
  l1:=Nat.le_refl _
  l2:=by omega
  n1:=by omega
  n2:=by omega
  n3:=by omega
  own:=by simpa using r3.drew
  cells:=(r2.alloc _).drew
  locks:=((r1.alloc _).alloc _).drew.congr fun i hi => by simp [newK]
  t0:=Int.le_refl _
  hh:=fun l => by show (-1:Int)≤if l < 0 then -1 else 0; simp
  cb:=hC
  lb:=hL }
set_option maxHeartbeats 1600000 in
theorem mem_New (C L:Nat) (hC:1≤C∧C≤1048576) (hL:L≤128) (w:World) :
  Calls Try.prog 6 #[.int .i64 (C:Int),.int .i64 (L:Int)] w fun e w' => ∃ b,e=.returned (.tuple #[.pointer (some ⟨b,0,none⟩),.int .i64 0])∧MemAt w' 82 w.heap.size b (newS C L)∧Below w.heap.size w w':=by
 have hm1:=fun W => run_mkFull (P:=Try.prog) W stU64s C (by omega)
 have hm2:=fun W => run_mkFull (P:=Try.prog) W stInts L (by omega)
 have FA:=Lib.hid (new_A w 82 C L hC.2 hL)
 have FB:=Lib.hid (new_B w 82 C L hC.2 hL)
 have hL1:=hL
 have h1:decide ((C:Int) < 1)=false:=by simp; omega
 have h2:decide ((C:Int) > 1048576)=false:=by simp; omega
 have h3:decide ((L:Int) < 0)=false:=by simp
 have h4:decide ((L:Int) > 128)=false:=by simp; omega
 have h2':decide (1048576 < (C:Int))=false:=by simp; omega
 have h4':decide (128 < (L:Int))=false:=by simp; omega
 have HWB:Hid (∀ o1 o2 o3,Below w.heap.size w (((w.alloc o1).alloc o2).alloc o3).drew):=fun o1 o2 o3 => ((((Below.refl _ _).alloc (Nat.le_refl _) _).alloc (by simp) _).alloc (by simp; omega) _).drew
 go_enter Try.func6,Try.ntmps6
 go_wp2
 clear h1 h2 h3 h4 h2' h4'
 go_region
 ·obtain ⟨w1,hw1⟩:∃ w1,w1=(((w.alloc (.cells (mkC (.int .u64 0) 1 C) 44)).alloc (.cells (mkC (.int .i64 0) 1 L) 3)).alloc (.cells #[.slice (some ⟨w.heap.size,0,none⟩) C C,.slice (some ⟨w.heap.size + 1,0,none⟩) L L,.int .i64 0] 82)).drew:=⟨_,rfl⟩
  have HF:=FA.out
  have HB2:Below w.heap.size w w1:=by rw [hw1]; exact HWB.out _ _ _
  rw [← hw1] at HF ⊢
  clear hm1 hm2 FA FB hw1 HWB
  obtain ⟨b,hb⟩:∃ b,b=w.heap.size + 1 + 1:=⟨_,rfl⟩
  rw [← hb] at HF ⊢
  clear hb
  obtain ⟨bc,hbc⟩:∃ bc,bc=w.heap.size:=⟨_,rfl⟩
  obtain ⟨bl,hbl⟩:∃ bl,bl=w.heap.size + 1:=⟨_,rfl⟩
  have HF:MemIn w1 82 w.heap.size b bc bl (newK C L 0):=by rw [hbc,hbl]; exact HF
  clear hbc hbl
  obtain ⟨g0,g1,g2,g3⟩:=HF.at_
  change w1.cell? ⟨b,1,none⟩=some (.slice (some ⟨bl,0,none⟩) L L) at g1
  have HF0:=Lib.hid HF
  have HB0:=Lib.hid HB2
  clear HF HB2 g0 g2 g3
  go_wp2
  clear g1
  go_loopw [33] (fun i wr => ∃ k:Nat,k≤L∧i=.int .i64 k∧Hid (MemIn wr 82 w.heap.size b bc bl (newK C L k))∧Hid (Below w.heap.size w wr)) (fun i _ => L - (intOf i).toNat)
  case atStart => exact ⟨0,by omega,rfl,HF0.out,HB0.out⟩
  case round =>
   obtain ⟨k,hk,rfl,HR,HB⟩:=hrel
   obtain ⟨g0,g1,g2,g3⟩:=HR.out.at_
   change wr.cell? ⟨b,1,none⟩=some (.slice (some ⟨bl,0,none⟩) L L) at g1
   clear g0 g2 g3
   by_cases hlt:k < L
   ·have hk1:(k:Int) < (L:Int):=by omega
    have hk0:(0:Int)≤(k:Int):=Int.natCast_nonneg _
    obtain ⟨hc1,hc2⟩:=HR.out.l_at (k:=k) hlt
    have HR2:=Lib.hid (newK_succ C L k ▸ HR.out.putL k (-1) (by omega))
    have HBB:=Lib.hid (HB.out.setCell (p:=⟨bl,k,none⟩) HR.out.l1 (.int .i64 (-1)))
    clear HR HB
    go_wp2
    clear g1 hc1 hc2
    go_roundw
    case rel => exact ⟨k + 1,by omega,by go_num,HR2.out,HBB.out⟩
    case measure => simp [intOf]; omega
   ·have:k=L:=by omega
    subst this
    go_wp2
    go_ret2
    exact ⟨b,rfl,⟨bc,bl,HR.out.newS⟩,HB.out⟩
 ·obtain ⟨w1,hw1⟩:∃ w1,w1=(((w.alloc (.cells (mkC (.int .i64 0) 1 L) 3)).alloc (.cells (mkC (.int .u64 0) 1 C) 44)).alloc (.cells #[.slice (some ⟨w.heap.size + 1,0,none⟩) C C,.slice (some ⟨w.heap.size,0,none⟩) L L,.int .i64 0] 82)).drew:=⟨_,rfl⟩
  have HF:=FB.out
  have HB2:Below w.heap.size w w1:=by rw [hw1]; exact HWB.out _ _ _
  rw [← hw1] at HF ⊢
  clear hm1 hm2 FA FB hw1 HWB
  obtain ⟨b,hb⟩:∃ b,b=w.heap.size + 1 + 1:=⟨_,rfl⟩
  rw [← hb] at HF ⊢
  clear hb
  obtain ⟨bc,hbc⟩:∃ bc,bc=w.heap.size + 1:=⟨_,rfl⟩
  obtain ⟨bl,hbl⟩:∃ bl,bl=w.heap.size:=⟨_,rfl⟩
  have HF:MemIn w1 82 w.heap.size b bc bl (newK C L 0):=by rw [hbc,hbl]; exact HF
  clear hbc hbl
  obtain ⟨g0,g1,g2,g3⟩:=HF.at_
  change w1.cell? ⟨b,1,none⟩=some (.slice (some ⟨bl,0,none⟩) L L) at g1
  have HF0:=Lib.hid HF
  have HB0:=Lib.hid HB2
  clear HF HB2 g0 g2 g3
  go_wp2
  clear g1
  go_loopw [33] (fun i wr => ∃ k:Nat,k≤L∧i=.int .i64 k∧Hid (MemIn wr 82 w.heap.size b bc bl (newK C L k))∧Hid (Below w.heap.size w wr)) (fun i _ => L - (intOf i).toNat)
  case atStart => exact ⟨0,by omega,rfl,HF0.out,HB0.out⟩
  case round =>
   obtain ⟨k,hk,rfl,HR,HB⟩:=hrel
   obtain ⟨g0,g1,g2,g3⟩:=HR.out.at_
   change wr.cell? ⟨b,1,none⟩=some (.slice (some ⟨bl,0,none⟩) L L) at g1
   clear g0 g2 g3
   by_cases hlt:k < L
   ·have hk1:(k:Int) < (L:Int):=by omega
    have hk0:(0:Int)≤(k:Int):=Int.natCast_nonneg _
    obtain ⟨hc1,hc2⟩:=HR.out.l_at (k:=k) hlt
    have HR2:=Lib.hid (newK_succ C L k ▸ HR.out.putL k (-1) (by omega))
    have HBB:=Lib.hid (HB.out.setCell (p:=⟨bl,k,none⟩) HR.out.l1 (.int .i64 (-1)))
    clear HR HB
    go_wp2
    clear g1 hc1 hc2
    go_roundw
    case rel => exact ⟨k + 1,by omega,by go_num,HR2.out,HBB.out⟩
    case measure => simp [intOf]; omega
   ·have:k=L:=by omega
    subst this
    go_wp2
    go_ret2
    exact ⟨b,rfl,⟨bc,bl,HR.out.newS⟩,HB.out⟩
end Go.Proofs.Ythloabdfkakehaa
