/-
  Words and contracts that a statement's proof rests on (FgM, FgL). No statement is proved here.
-/
import Derived.WalkMore
import Derived.Test.YthloabdfkakehaaGreatFgI
set_option linter.unusedVariables false
set_option linter.unusedSimpArgs false
namespace Go.Proofs.YthloabdfkakehaaGreat
section
open Go.RowKit
section
variable {w w':World} {lo b fb L x rb K:Nat} {F:FcS} {m m':MemS} {N:Nat} {A:Nat→FaS} {ab:Nat→Nat} {Es:Nat→Nat→Prop} {g g':Nat→Nat→Pl} {R R':Nat→RowV} {V V':Nat→Value} {P:Nat} {ls:Nat→List OpN} {lv:Nat→Value} {s:RunS}
theorem RunM.addrow (h:RunM w lo b fb rb L F m N A ab Es g K R V) (T:TypeId) (z:Nat):RunM w lo b fb rb L F m N A ab Es g (K + 1) (updV R K ⟨T,z,.slice none 0 0,0,[]⟩) V:=by
 refine ⟨h.acts,h.row,⟨fun i hi => ?_,fun i j hi hj hne y hy => ?_⟩,fun i hi y hy hd => ?_,h.ord⟩
 ·by_cases e:i=K
  ·rw [e,updV_same]; exact World.ownsRow_nil _ _ _ _
  ·rw [updV_other _ _ e]; exact h.rows.own i (by omega)
 ·by_cases e:i=K
  ·rw [e,updV_same] at hy; cases hy
  ·rw [updV_other _ _ e] at hy
   by_cases e2:j=K
   ·rw [e2,updV_same]; exact fun h9 => by cases h9
   ·rw [updV_other _ _ e2]; exact h.rows.dis i j (by omega) (by omega) hne y hy
 ·obtain ⟨k,hk,e⟩:=hd
  by_cases e9:k=K
  ·rw [e9,updV_same] at e; cases e
  ·rw [updV_other _ _ e9] at e
   exact h.far i hi y hy ⟨k,by omega,e⟩
theorem RunM.push (h:RunM w lo b fb rb L F m N A ab Es g K R V) {k:Nat} (hk:k < K) (hk7:k < 7) {T:TypeId} {z n n':Nat} {v v':Value} {l l':List Value} (hr:R k=⟨T,z,v,n,l⟩) {o:Obj} (how:w'.ownsRow L T z v' n' l') (hg:(w.alloc o).grownBy w' v.ownBlock) (hl:v'.ownBlock=v.ownBlock ∨ v'.ownBlock=some (w.alloc o).heap.size) :
  RunM w' lo b fb rb L F m N A ab Es g K (updV R k ⟨T,z,v',n',l'⟩) V∧RunM (w'.setCell ⟨rb,6 + k,none⟩ v') lo b fb rb L F m N A ab Es g K (updV R k ⟨T,z,v',n',l'⟩) (updW V k v')∧Tch (RunD lo rb L) w (w'.setCell ⟨rb,6 + k,none⟩ v') :=
 ⟨h.app hk hr how hg hl,(h.app hk hr how hg hl).setV hk7 v',((h.rows.app hk hr how hg hl).2.mono fun x _ hx => .inr (.inr (h.rows.lt hx).1)).setCell (.inr (.inl rfl)) _⟩
def run0 (C K:Nat):RunS:=⟨⟨C,K,fun _ => 0,fun _ => -1,0⟩,0,fun _ => newA 0 (.look 0 0) 0 0 0 0 0,[],fun _ => 0,fun _ => 0,fun _ => 0,fun _ => -1,fun _ => ⟨0,0,0,0,0,0,0⟩⟩
def nilV (k:Nat):Value:=.slice none 0 0
theorem RunM.start {C K9:Nat} (hf:FdbAt w lo b fb F ⟨C,K9,fun _ => 0,fun _ => -1,0⟩) (ls:Nat→List OpN) (lv:Nat→Value) (ab:Nat→Nat) (Es:Nat→Nat→Prop) :
  RunM (w.alloc (.cells #[.pointer (some ⟨b,0,none⟩),.pointer (some ⟨fb,0,none⟩),.int .i64 (F.S:Nat),.int .i64 (F.B:Nat),.int .i64 (F.n:Nat),.int .i64 (F.tr:Nat),.slice none 0 0,.slice none 0 0,.slice none 0 0,.slice none 0 0,.slice none 0 0,.slice none 0 0,.slice none 0 0,.bool false] 36)) lo b fb w.heap.size (w.heap.size + 1) F (run0 C K9).m 0 (run0 C K9).A ab Es (fun _ _ => pl0) (7 + 0) (rowsS 0 ls lv ab (run0 C K9) nilV) nilV:=by
 have hrow:=World.rowIs_alloc w #[.pointer (some ⟨b,0,none⟩),.pointer (some ⟨fb,0,none⟩),.int .i64 (F.S:Nat),.int .i64 (F.B:Nat),.int .i64 (F.n:Nat),.int .i64 (F.tr:Nat),.slice none 0 0,.slice none 0 0,.slice none 0 0,.slice none 0 0,.slice none 0 0,.slice none 0 0,.slice none 0 0,.bool false] 36 (runF b fb F nilV) (fun i hi => by
  match i,hi with
  | 0,_ => rfl
  | 1,_ => rfl
  | 2,_ => rfl
  | 3,_ => rfl
  | 4,_ => rfl
  | 5,_ => rfl
  | 6,_ => rfl
  | 7,_ => rfl
  | 8,_ => rfl
  | 9,_ => rfl
  | 10,_ => rfl
  | 11,_ => rfl
  | 12,_ => rfl
  | 13,_ => rfl
  | _ + 14,hh => exact absurd hh (by simp))
 have hb:=(Below.refl w.heap.size w).alloc (Nat.le_refl _) (.cells #[.pointer (some ⟨b,0,none⟩),.pointer (some ⟨fb,0,none⟩),.int .i64 (F.S:Nat),.int .i64 (F.B:Nat),.int .i64 (F.n:Nat),.int .i64 (F.tr:Nat),.slice none 0 0,.slice none 0 0,.slice none 0 0,.slice none 0 0,.slice none 0 0,.slice none 0 0,.slice none 0 0,.bool false] 36)
 refine ⟨ActsAt.none_ (hf.below hb) _ _ _,hrow,⟨fun i hi => ?_,fun i j hi hj hne y hy => ?_⟩,fun i hi => absurd hi (by omega),hf.lt,Nat.lt_succ_self _,by simp⟩
 ·rcases (show i=0 ∨ i=1 ∨ i=2 ∨ i=3 ∨ i=4 ∨ i=5 ∨ i=6 by omega) with rfl | rfl | rfl | rfl | rfl | rfl | rfl <;> exact World.ownsRow_nil _ _ _ _
 ·exfalso
  rcases (show i=0 ∨ i=1 ∨ i=2 ∨ i=3 ∨ i=4 ∨ i=5 ∨ i=6 by omega) with rfl | rfl | rfl | rfl | rfl | rfl | rfl <;> cases hy
theorem made_rows (C K9 k j:Nat) (lj:List OpN) (hj:lj.length=j) (v' v0 v1 v2:Value) (i:Nat) (hi:i < 7 + (k + 1)) :
  rowsS (k + 1) (fun p => if p=k then lj else ls p) (fun p => if p=k then v' else lv p) ab (run0 C K9) (updW (updW (updW V 0 v0) 1 v1) 2 v2) i =
  updV (updV (updV (updV (rowsS k ls lv ab (run0 C K9) V) (7 + k) ⟨63,7,v',j,opc lj⟩) 0 ⟨34,1,v0,k + 1,(List.range k).map lv ++ [v']⟩) 1 ⟨3,1,v1,k + 1,kvI (fun _ => 0) k ++ [.int .i64 0]⟩) 2 ⟨3,1,v2,k + 1,kvI (fun _ => -1) k ++ [.int .i64 (-1)]⟩ i:=by
 have e1:kvI (fun _ => (0:Int)) (k + 1)=kvI (fun _ => 0) k ++ [.int .i64 0]:=by rw [← kvI_succ]; exact kvI_congr fun i hi => by unfold updI; split <;> rfl
 have e2:kvI (fun _ => (-1:Int)) (k + 1)=kvI (fun _ => -1) k ++ [.int .i64 (-1)]:=by rw [← kvI_succ]; exact kvI_congr fun i hi => by unfold updI; split <;> rfl
 have e3:(List.range (k + 1)).map (fun p => if p=k then v' else lv p)=(List.range k).map lv ++ [v']:=by
  rw [List.range_succ,List.map_append]
  congr 1
  ·apply List.map_congr_left
   intro i hi
   rw [if_neg (by have:=List.mem_range.1 hi; omega)]
  ·simp
 rw [← e1,← e2,← e3]
 rcases (show i=0 ∨ i=1 ∨ i=2 ∨ i=3 ∨ i=4 ∨ i=5 ∨ i=6 ∨ 7≤i by omega) with rfl | rfl | rfl | rfl | rfl | rfl | rfl | h7
 ·rfl
 ·rfl
 ·rfl
 ·unfold updV; rw [if_neg (by omega),if_neg (by omega),if_neg (by omega),if_neg (by omega)]; rfl
 ·unfold updV; rw [if_neg (by omega),if_neg (by omega),if_neg (by omega),if_neg (by omega)]; rfl
 ·unfold updV; rw [if_neg (by omega),if_neg (by omega),if_neg (by omega),if_neg (by omega)]; rfl
 ·unfold updV; rw [if_neg (by omega),if_neg (by omega),if_neg (by omega),if_neg (by omega)]; rfl
 ·obtain ⟨p,rfl⟩:∃ p,i=7 + p:=⟨i - 7,by omega⟩
  have hR:∀ (P:Nat) (ls:Nat→List OpN) (lv:Nat→Value) (V:Nat→Value),rowsS P ls lv ab (run0 C K9) V (7 + p)=⟨63,7,lv p,(ls p).length,opc (ls p)⟩:=fun P ls lv V => by
   unfold rowsS rowsF
   rw [if_neg (by omega),if_neg (by omega),if_neg (by omega),if_neg (by omega),if_neg (by omega),if_neg (by omega),if_neg (by omega),Nat.add_sub_cancel_left]
  unfold updV
  rw [if_neg (by omega),if_neg (by omega),if_neg (by omega),hR]
  by_cases e:p=k
  ·subst e
   rw [if_pos rfl,if_pos rfl,if_pos rfl,hj]
  ·rw [if_neg e,if_neg e,if_neg (by omega),hR]
end
end
section
open Go.RowKit
section
variable {w:World} {lo b fb rb L:Nat} {F:FcS} {P:Nat} {ls:Nat→List OpN} {lv:Nat→Value} {s:RunS}
theorem rows_inL (ab:Nat→Nat) (V:Nat→Value) (p:Nat):rowsS P ls lv ab s V (7 + p)=⟨63,7,lv p,(ls p).length,opc (ls p)⟩:=by
 unfold rowsS rowsF
 rw [if_neg (by omega),if_neg (by omega),if_neg (by omega),if_neg (by omega),if_neg (by omega),if_neg (by omega),if_neg (by omega),Nat.add_sub_cancel_left]
set_option maxRecDepth 20000 in
set_option maxHeartbeats 3200000 in
theorem law12_left (h:RunAt w lo b fb rb L F P ls lv s) (hP:P≤6) (hl:∀ p,p < P→(ls p).length≤12) :
  Calls Tryz.prog 14 #[.pointer (some ⟨rb,0,none⟩)] w (Says (.int .i64 (leftR P ls s:Nat)) w):=by
 obtain ⟨g,ab,Es,V,hM,hK⟩:=h
 obtain ⟨⟨A0,c0,e0,k0,m0⟩,_⟩:=hM.slice (k:=0) (by omega) rfl
 have HM:=Lib.hid hM
 have HK:=Lib.hid hK
 have HL:=Lib.hid hl
 have HE0:=Lib.hid e0
 have r6:w.cell? ⟨rb,6,none⟩=some (V 0):=hM.cell (i:=6) (by omega)
 rw [e0] at r6
 have hP9:((P:Nat):Int)≤6:=by omega
 clear hM hK hl e0 m0 k0
 go_enter Tryz.func14,Tryz.ntmps14
 go_wp2
 go_loopw [3,4] (fun n i wr => ∃ k:Nat,k≤P∧i=.int .i64 k∧n=.int .i64 (sumN (leftO ls s) k:Nat)∧sumN (leftO ls s) k≤k * 13∧Hid (Below w.heap.size w wr)) (fun n i _ => P - (intOf i).toNat)
 case atStart => exact ⟨0,by omega,rfl,rfl,by simp [sumN],Below.refl _ _⟩
 case round =>
  obtain ⟨k,hk,rfl,rfl,hn,HB⟩:=hrel
  have HMr:=Lib.hid (HM.out.below HB.out)
  have rr6:wr.cell? ⟨rb,6,none⟩=some (V 0):=HMr.out.cell (i:=6) (by omega)
  by_cases hlt:k < P
  ·obtain ⟨q0,c0,e0,k0,m0,d0,f0⟩:=(HMr.out.slice (k:=0) (by omega) rfl).2 (by omega)
   obtain ⟨q1,c1,e1,k1,m1,d1,f1⟩:=(HMr.out.slice (k:=1) (by omega) rfl).2 (by omega)
   obtain ⟨q2,c2,e2,k2,m2,d2,f2⟩:=(HMr.out.slice (k:=2) (by omega) rfl).2 (by omega)
   unfold maxLen at m0 m1 m2
   have a0:=(d0 k (by omega)).trans (show ((List.range P).map lv)[k]?=some (lv k) by simp [List.getElem?_range hlt])
   have a1:=(d1 k (by omega)).trans (kvI_at _ hlt)
   have a2:=(d2 k (by omega)).trans (kvI_at _ hlt)
   obtain ⟨⟨Ap,cp,ep,kp,mp⟩,_⟩:=HMr.out.slice (k:=7 + k) (by omega) (rows_inL ab V k)
   rw [ep] at a0
   have r7:wr.cell? ⟨rb,7,none⟩=some (V 1):=HMr.out.cell (i:=7) (by omega)
   have r8:wr.cell? ⟨rb,8,none⟩=some (V 2):=HMr.out.cell (i:=8) (by omega)
   rw [e0] at rr6
   rw [e1] at r7
   rw [e2] at r8
   have hat:=HK.out.at_ k hlt
   have hll:=HL.out k hlt
   have hnw:=HK.out.nw k hlt
   have hsu:sumN (leftO ls s) (k + 1)=sumN (leftO ls s) k + leftO ls s k:=rfl
   have hlo:leftO ls s k=(ls k).length - s.at_ k + if s.nw k=-1 then 0 else 1:=rfl
   obtain ⟨n,hne⟩:∃ n,n=sumN (leftO ls s) k:=⟨_,rfl⟩
   obtain ⟨l,hle⟩:∃ l,l=(ls k).length:=⟨_,rfl⟩
   obtain ⟨a,hae⟩:∃ a,a=s.at_ k:=⟨_,rfl⟩
   rw [← hle] at hll hat hlo a0 kp
   rw [← hae] at a1 hat hlo
   rw [← hne] at hn hsu ⊢
   obtain ⟨n1,hn1⟩:∃ n1:Nat,n1=n + l:=⟨_,rfl⟩
   obtain ⟨n2,hn2⟩:∃ n2:Nat,n2=n1 - a:=⟨_,rfl⟩
   obtain ⟨n3,hn3⟩:∃ n3:Nat,n3=n2 + 1:=⟨_,rfl⟩
   have y1:wrap64 ((n:Int) + (l:Int))=(n1:Int)∧IntKind.i64.wrap ((n:Int) + (l:Int))=(n1:Int):=by
    rw [show (n:Int) + (l:Int)=(n1:Int) by omega]
    exact ⟨IntWalk.wrap64_in _ (by omega),IntWalk.i64_in _ (by omega)⟩
   have y2:wrap64 ((n1:Int) - (a:Int))=(n2:Int)∧IntKind.i64.wrap ((n1:Int) - (a:Int))=(n2:Int):=by
    rw [show (n1:Int) - (a:Int)=(n2:Int) by clear y1; omega]
    exact ⟨IntWalk.wrap64_in _ (by clear y1; omega),IntWalk.i64_in _ (by clear y1; omega)⟩
   have y3:wrap64 ((n2:Int) + 1)=(n3:Int)∧IntKind.i64.wrap ((n2:Int) + 1)=(n3:Int):=by
    rw [show (n2:Int) + 1=(n3:Int) by clear y1 y2; omega]
    exact ⟨IntWalk.wrap64_in _ (by clear y1 y2; omega),IntWalk.i64_in _ (by clear y1 y2; omega)⟩
   obtain ⟨y1,y4⟩:=y1
   obtain ⟨y2,y5⟩:=y2
   obtain ⟨y3,y6⟩:=y3
   have g0:(0:Int)≤(k:Int):=Int.natCast_nonneg _
   have g1:(k:Int) < (P:Int):=by omega
   have HR:Hid (∀ z:Nat,(s.nw k=-1→z=n2)→(s.nw k ≠ -1→z=n3)→z=sumN (leftO ls s) (k + 1)∧sumN (leftO ls s) (k + 1)≤(k + 1) * 13):=fun z h1 h2 => by
    clear y1 y2 y3 y4 y5 y6
    by_cases e:s.nw k=-1
    ·rw [if_pos e] at hlo
     have:=h1 e
     omega
    ·rw [if_neg e] at hlo
     have:=h2 e
     omega
   rcases hnw with hnw | ⟨i,hi,hnw,_,_⟩
   ·obtain ⟨z1,z2⟩:=HR.out n2 (fun _ => rfl) (fun h => absurd hnw h)
    have Z1:=Lib.hid z1
    have Z2:=Lib.hid z2
    rw [hnw] at a2
    clear d0 d1 d2 f0 f1 f2 e0 e1 e2 ep hat hll hsu hlo hne hle hae hn1 hn2 hn3 hn HR z1 z2 m0 m1 m2 mp
    go_wp2_with fail
    go_quiet (fail)
    go_wp2
    go_roundw
    case rel => exact ⟨k + 1,by omega,by go_num,by rw [← Z1.out],Z2.out,HB.out.trans (below_drewN (Below.refl _ _) _ |>.mono HB.out.size)⟩
    case measure => simp [intOf]; omega
   ·obtain ⟨z1,z2⟩:=HR.out n3 (fun h => by omega) (fun _ => rfl)
    have Z1:=Lib.hid z1
    have Z2:=Lib.hid z2
    rw [hnw] at a2
    have i0:decide ((0:Int)≤(i:Int))=true:=decide_eq_true (Int.natCast_nonneg _)
    have i1:(0:Int)≤(i:Int):=Int.natCast_nonneg _
    clear d0 d1 d2 f0 f1 f2 e0 e1 e2 ep hat hll hsu hlo hne hle hae hn1 hn2 hn3 hn HR z1 z2 m0 m1 m2 mp hnw hi
    go_wp2_with fail
    go_quiet (fail)
    go_wp2
    go_roundw
    case rel => exact ⟨k + 1,by omega,by go_num,by rw [← Z1.out],Z2.out,HB.out.trans (below_drewN (Below.refl _ _) _ |>.mono HB.out.size)⟩
    case measure => simp [intOf]; omega
  ·have hkP:k=P:=by omega
   subst hkP
   rw [HE0.out] at rr6
   have g2:decide ((k:Int) < (k:Int))=false:=decide_eq_false (by omega)
   clear hn
   go_wp2
   go_ret
   exact ⟨rfl,HB.out⟩
end
end
end Go.Proofs.YthloabdfkakehaaGreat
