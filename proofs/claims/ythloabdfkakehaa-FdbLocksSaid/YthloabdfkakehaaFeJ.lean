/-
  Words and contracts that a statement's proof rests on (FeJ, FgL). No statement is proved here.
-/
import Derived.WalkMore
import Derived.Test.YthloabdfkakehaaFdX
import Derived.Test.YthloabdfkakehaaFgS
import Derived.Test.YthloabdfkakehaaFgM
import Derived.Test.YthloabdfkakehaaMemD
set_option linter.unusedVariables false
set_option linter.unusedSimpArgs false
namespace Go.Proofs.Ythloabdfkakehaa
section
open Go.RowKit
section
variable {w:World} {lo b:Nat} {m:MemS}
theorem newF_atJ {W:World} {lo b:Nat} {m:MemS} {F:FcS} (hm:MemAt W 82 lo b m) (hF:FFit F m.C m.L) (hlo:lo + 3≤W.heap.size) :
  FdbAt (W.alloc (.cells #[.pointer (some ⟨b,0,none⟩),.int .i64 (F.ba:Nat),.int .i64 (F.lk:Nat),.int .i64 (F.S:Nat),.int .i64 (F.B:Nat),.int .i64 (F.n:Nat),.int .i64 (F.tr:Nat)] 86)) lo b W.heap.size F m where
 mem:=hm.below ((Below.refl _ _).alloc (Nat.le_refl _) _)
 row:=World.rowIs_alloc W #[.pointer (some ⟨b,0,none⟩),.int .i64 (F.ba:Nat),.int .i64 (F.lk:Nat),.int .i64 (F.S:Nat),.int .i64 (F.B:Nat),.int .i64 (F.n:Nat),.int .i64 (F.tr:Nat)] 86 (fdbF b F) (fun i hi => by
  match i,hi with
  | 0,_ => rfl
  | 1,_ => rfl
  | 2,_ => rfl
  | 3,_ => rfl
  | 4,_ => rfl
  | 5,_ => rfl
  | 6,_ => rfl
  | _ + 7,hh => exact absurd hh (by simp))
 out:=hlo
 fits:=hF
set_option maxRecDepth 20000 in
set_option maxHeartbeats 3200000 in
theorem fdb_NewY (hm:MemAt w 82 lo b m) (F:FcS) (hF:FFit F m.C m.L) (hlo:lo + 3≤w.heap.size) :
  Calls Try.prog 7 #[.pointer (some ⟨b,0,none⟩),.int .i64 (F.ba:Nat),.int .i64 (F.lk:Nat),.agg #[.int .i64 (F.S:Nat),.int .i64 (F.B:Nat),.int .i64 (F.n:Nat)],.int .i64 (F.tr:Nat)] w fun e w' => ∃ fb,e=.returned (.tuple #[.pointer (some ⟨fb,0,none⟩),.int .i64 0])∧w.heap.size≤fb∧FdbAt w' lo b fb F m∧Below w.heap.size w w':=by
 have HFN:=Lib.hid fun W (hb:Below w.heap.size w W) => newF_atJ (hm.below hb) hF (Nat.le_trans hlo hb.size)
 have HR:=Lib.hid fun W => book_Right (F.S:Int) (F.B:Int) (F.n:Int) W
 rw [rightS_nat hF.S hF.B hF.n] at HR
 have HT:=Lib.hid fun W => fdb_rightTries (F.tr:Int) W
 rw [show inB (F.tr:Int) 8=true by have:=hF.tr; unfold inB; simp; omega] at HT
 have HC:=Lib.hid fun W => fdb_CellsY F.S F.B F.n hF.S hF.B hF.n W
 have HL:=Lib.hid fun W => fdb_LocksY F.S F.B F.n hF.S hF.B hF.n W
 have hall:=hF.all
 have hc:=hF.c
 have hl:=hF.l
 have hC:=hF.C
 have hL:=hF.L
 rw [show F.S * F.B * (1 + 2 * F.n)=F.S * F.B * F.W from rfl] at HC
 generalize F.S * F.B * F.W=CE at *
 have HW1:=Lib.hid fun W => fdb_within (F.ba:Int) CE m.C (by omega) (by omega) W
 rw [show withinI (F.ba:Int) CE m.C=true by unfold withinI; simp; omega] at HW1
 have HW2:=Lib.hid fun W => fdb_within (F.lk:Int) F.S m.L (by omega) (by omega) W
 rw [show withinI (F.lk:Int) F.S m.L=true by unfold withinI; simp; omega] at HW2
 have HMC:=Lib.hid fun W (hb:Below w.heap.size w W) => mem_Cells (hm.below hb)
 have HML:=Lib.hid fun W (hb:Below w.heap.size w W) => mem_Locks (hm.below hb)
 obtain ⟨ba,lk,S,B,n,tr⟩:=F
 clear hm hF hlo hall hc hl hC hL
 dsimp only at *
 go_enter Try.func7,Try.ntmps7
 go_wp2_with (first
  | go_big_skip
  | (go_at_call 43; (with_reducible refine Calls.mono (HR.out _) ?_); rintro e w1 ⟨rfl,hb1⟩; have HB1:=Lib.hid (((Below.refl w.heap.size w).alloc (Nat.le_refl _) _).trans (hb1.mono (by simp))); have c0:w1.cell? ⟨w.heap.size,0,none⟩=some (.int .i64 (S:Nat)):=(hb1.cell (p:=⟨w.heap.size,0,none⟩) (by simp)).trans (by simp [go_sem]); have c1:w1.cell? ⟨w.heap.size,1,none⟩=some (.int .i64 (B:Nat)):=(hb1.cell (p:=⟨w.heap.size,1,none⟩) (by simp)).trans (by simp [go_sem]); have c2:w1.cell? ⟨w.heap.size,2,none⟩=some (.int .i64 (n:Nat)):=(hb1.cell (p:=⟨w.heap.size,2,none⟩) (by simp)).trans (by simp [go_sem]); have hlt9:w.heap.size < w1.heap.size:=Nat.lt_of_lt_of_le (by simp) hb1.size; clear hb1)
  | (go_at_call 44; (with_reducible refine Calls.mono (HT.out _) ?_); rintro e w9 ⟨rfl,rfl⟩)
  | (go_at_call 12; (with_reducible refine Calls.mono (HC.out _) ?_); rintro e w2 ⟨rfl,hb⟩; have HB2:=Lib.hid (HB1.out.trans (hb.mono HB1.out.size)); have d0:w2.cell? ⟨w.heap.size,0,none⟩=some (.int .i64 (S:Nat)):=(hb.cell (p:=⟨w.heap.size,0,none⟩) hlt9).trans c0; have d1:w2.cell? ⟨w.heap.size,1,none⟩=some (.int .i64 (B:Nat)):=(hb.cell (p:=⟨w.heap.size,1,none⟩) hlt9).trans c1; have d2:w2.cell? ⟨w.heap.size,2,none⟩=some (.int .i64 (n:Nat)):=(hb.cell (p:=⟨w.heap.size,2,none⟩) hlt9).trans c2; have hlt9:w.heap.size < w2.heap.size:=Nat.lt_of_lt_of_le hlt9 hb.size; clear c0 c1 c2; clear hb)
  | (go_at_call 46; (with_reducible refine Calls.mono (HMC.out _ HB2.out) ?_); rintro e w9 ⟨rfl,rfl⟩)
  | (go_at_call 45; (with_reducible refine Calls.mono (HW1.out _) ?_); rintro e w9 ⟨rfl,rfl⟩)
  | (go_at_call 13; (with_reducible refine Calls.mono (HL.out _) ?_); rintro e w3 ⟨rfl,hb⟩; have HB3:=Lib.hid (HB2.out.trans (hb.mono HB2.out.size)); have e0:w3.cell? ⟨w.heap.size,0,none⟩=some (.int .i64 (S:Nat)):=(hb.cell (p:=⟨w.heap.size,0,none⟩) hlt9).trans d0; have e1:w3.cell? ⟨w.heap.size,1,none⟩=some (.int .i64 (B:Nat)):=(hb.cell (p:=⟨w.heap.size,1,none⟩) hlt9).trans d1; have e2:w3.cell? ⟨w.heap.size,2,none⟩=some (.int .i64 (n:Nat)):=(hb.cell (p:=⟨w.heap.size,2,none⟩) hlt9).trans d2; clear d0 d1 d2 hb)
  | (go_at_call 47; (with_reducible refine Calls.mono (HML.out _ HB3.out) ?_); rintro e w9 ⟨rfl,rfl⟩)
  | (go_at_call 45; (with_reducible refine Calls.mono (HW2.out _) ?_); rintro e w9 ⟨rfl,rfl⟩)
  | fail)
 go_wp2
 go_ret2
 exact ⟨w3.heap.size,rfl,HB3.out.size,HFN.out w3 HB3.out,HB3.out.alloc HB3.out.size _⟩
end
end
section
open Go.RowKit
section
variable {w:World} {lo b fb rb L:Nat} {F:FcS} {P:Nat} {ls:Nat→List OpN} {lv:Nat→Value} {s:RunS}
theorem rows_inL (ab:Nat→Nat) (V:Nat→Value) (p:Nat):rowsS P ls lv ab s V (7 + p)=⟨106,7,lv p,(ls p).length,opc (ls p)⟩:=by
 unfold rowsS rowsF
 rw [if_neg (by omega),if_neg (by omega),if_neg (by omega),if_neg (by omega),if_neg (by omega),if_neg (by omega),if_neg (by omega),Nat.add_sub_cancel_left]
set_option maxRecDepth 20000 in
set_option maxHeartbeats 3200000 in
theorem law12_left (h:RunAt w lo b fb rb L F P ls lv s) (hP:P≤6) (hl:∀ p,p < P→(ls p).length≤12) :
  Calls Try.prog 33 #[.pointer (some ⟨rb,0,none⟩)] w (Says (.int .i64 (leftR P ls s:Nat)) w):=by
 obtain ⟨g,ab,Es,V,hM,hK⟩:=h
 obtain ⟨⟨A0,c0,e0,k0,m0⟩,_⟩:=hM.slice (k:=0) (by omega) rfl
 have HM:=Lib.hid hM
 have HK:=Lib.hid hK
 have HL:=Lib.hid hl
 have HE0:=Lib.hid e0
 have r6:w.cell? ⟨rb,6,none⟩=some (V 0):=hM.cell (i:=6) (by omega)
 rw [e0] at r6
 have hP9:((P:Nat):Int)≤6:=by omega
 clear hM hK hl e0 m0 k0
 go_enter Try.func33,Try.ntmps33
 go_wp2
 go_loopw [3,4] (fun n i wr => ∃ k:Nat,k≤P∧i=.int .i64 k∧n=.int .i64 (sumN (leftO ls s) k:Nat)∧sumN (leftO ls s) k≤k * 13∧Hid (Below w.heap.size w wr)) (fun n i _ => P - (intOf i).toNat)
 case atStart => exact ⟨0,by omega,rfl,rfl,by simp [sumN],Below.refl _ _⟩
 case round =>
  obtain ⟨k,hk,rfl,rfl,hn,HB⟩:=hrel
  have HMr:=Lib.hid (HM.out.below HB.out)
  have rr6:wr.cell? ⟨rb,6,none⟩=some (V 0):=HMr.out.cell (i:=6) (by omega)
  by_cases hlt:k < P
  ·obtain ⟨q0,c0,e0,k0,m0,d0,f0⟩:=(HMr.out.slice (k:=0) (by omega) rfl).2 (by omega)
   obtain ⟨q1,c1,e1,k1,m1,d1,f1⟩:=(HMr.out.slice (k:=1) (by omega) rfl).2 (by omega)
   obtain ⟨q2,c2,e2,k2,m2,d2,f2⟩:=(HMr.out.slice (k:=2) (by omega) rfl).2 (by omega)
   unfold maxLen at m0 m1 m2
   have a0:=(d0 k (by omega)).trans (show ((List.range P).map lv)[k]?=some (lv k) by simp [List.getElem?_range hlt])
   have a1:=(d1 k (by omega)).trans (kvI_at _ hlt)
   have a2:=(d2 k (by omega)).trans (kvI_at _ hlt)
   obtain ⟨⟨Ap,cp,ep,kp,mp⟩,_⟩:=HMr.out.slice (k:=7 + k) (by omega) (rows_inL ab V k)
   rw [ep] at a0
   have r7:wr.cell? ⟨rb,7,none⟩=some (V 1):=HMr.out.cell (i:=7) (by omega)
   have r8:wr.cell? ⟨rb,8,none⟩=some (V 2):=HMr.out.cell (i:=8) (by omega)
   rw [e0] at rr6
   rw [e1] at r7
   rw [e2] at r8
   have hat:=HK.out.at_ k hlt
   have hll:=HL.out k hlt
   have hnw:=HK.out.nw k hlt
   have hsu:sumN (leftO ls s) (k + 1)=sumN (leftO ls s) k + leftO ls s k:=rfl
   have hlo:leftO ls s k=(ls k).length - s.at_ k + if s.nw k=-1 then 0 else 1:=rfl
   obtain ⟨n,hne⟩:∃ n,n=sumN (leftO ls s) k:=⟨_,rfl⟩
   obtain ⟨l,hle⟩:∃ l,l=(ls k).length:=⟨_,rfl⟩
   obtain ⟨a,hae⟩:∃ a,a=s.at_ k:=⟨_,rfl⟩
   rw [← hle] at hll hat hlo a0 kp
   rw [← hae] at a1 hat hlo
   rw [← hne] at hn hsu ⊢
   obtain ⟨n1,hn1⟩:∃ n1:Nat,n1=n + l:=⟨_,rfl⟩
   obtain ⟨n2,hn2⟩:∃ n2:Nat,n2=n1 - a:=⟨_,rfl⟩
   obtain ⟨n3,hn3⟩:∃ n3:Nat,n3=n2 + 1:=⟨_,rfl⟩
   have y1:wrap64 ((n:Int) + (l:Int))=(n1:Int)∧IntKind.i64.wrap ((n:Int) + (l:Int))=(n1:Int):=by
    rw [show (n:Int) + (l:Int)=(n1:Int) by omega]
    exact ⟨IntWalk.wrap64_in _ (by omega),IntWalk.i64_in _ (by omega)⟩
   have y2:wrap64 ((n1:Int) - (a:Int))=(n2:Int)∧IntKind.i64.wrap ((n1:Int) - (a:Int))=(n2:Int):=by
    rw [show (n1:Int) - (a:Int)=(n2:Int) by clear y1; omega]
    exact ⟨IntWalk.wrap64_in _ (by clear y1; omega),IntWalk.i64_in _ (by clear y1; omega)⟩
   have y3:wrap64 ((n2:Int) + 1)=(n3:Int)∧IntKind.i64.wrap ((n2:Int) + 1)=(n3:Int):=by
    rw [show (n2:Int) + 1=(n3:Int) by clear y1 y2; omega]
    exact ⟨IntWalk.wrap64_in _ (by clear y1 y2; omega),IntWalk.i64_in _ (by clear y1 y2; omega)⟩
   obtain ⟨y1,y4⟩:=y1
   obtain ⟨y2,y5⟩:=y2
   obtain ⟨y3,y6⟩:=y3
   have g0:(0:Int)≤(k:Int):=Int.natCast_nonneg _
   have g1:(k:Int) < (P:Int):=by omega
   have HR:Hid (∀ z:Nat,(s.nw k=-1→z=n2)→(s.nw k ≠ -1→z=n3)→z=sumN (leftO ls s) (k + 1)∧sumN (leftO ls s) (k + 1)≤(k + 1) * 13):=fun z h1 h2 => by
    clear y1 y2 y3 y4 y5 y6
    by_cases e:s.nw k=-1
    ·rw [if_pos e] at hlo
     have:=h1 e
     omega
    ·rw [if_neg e] at hlo
     have:=h2 e
     omega
   rcases hnw with hnw | ⟨i,hi,hnw,_,_⟩
   ·obtain ⟨z1,z2⟩:=HR.out n2 (fun _ => rfl) (fun h => absurd hnw h)
    have Z1:=Lib.hid z1
    have Z2:=Lib.hid z2
    rw [hnw] at a2
    clear d0 d1 d2 f0 f1 f2 e0 e1 e2 ep hat hll hsu hlo hne hle hae hn1 hn2 hn3 hn HR z1 z2 m0 m1 m2 mp
    go_wp2_with fail
    go_quiet (fail)
    go_wp2
    go_roundw
    case rel => exact ⟨k + 1,by omega,by go_num,by rw [← Z1.out],Z2.out,HB.out.trans (below_drewN (Below.refl _ _) _ |>.mono HB.out.size)⟩
    case measure => simp [intOf]; omega
   ·obtain ⟨z1,z2⟩:=HR.out n3 (fun h => by omega) (fun _ => rfl)
    have Z1:=Lib.hid z1
    have Z2:=Lib.hid z2
    rw [hnw] at a2
    have i0:decide ((0:Int)≤(i:Int))=true:=decide_eq_true (Int.natCast_nonneg _)
    have i1:(0:Int)≤(i:Int):=Int.natCast_nonneg _
    clear d0 d1 d2 f0 f1 f2 e0 e1 e2 ep hat hll hsu hlo hne hle hae hn1 hn2 hn3 hn HR z1 z2 m0 m1 m2 mp hnw hi
    go_wp2_with fail
    go_quiet (fail)
    go_wp2
    go_roundw
    case rel => exact ⟨k + 1,by omega,by go_num,by rw [← Z1.out],Z2.out,HB.out.trans (below_drewN (Below.refl _ _) _ |>.mono HB.out.size)⟩
    case measure => simp [intOf]; omega
  ·have hkP:k=P:=by omega
   subst hkP
   rw [HE0.out] at rr6
   have g2:decide ((k:Int) < (k:Int))=false:=decide_eq_false (by omega)
   clear hn
   go_wp2
   go_ret
   exact ⟨rfl,HB.out⟩
end
end
end Go.Proofs.Ythloabdfkakehaa
