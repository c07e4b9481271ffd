/-
  Words and contracts that a statement's proof rests on (FgP, FgL, FgM, FgS). No statement is proved here.
-/
import Derived.WalkMore
import Derived.Test.YthloabdfkakehaaGreatKeyR
import Derived.Test.YthloabdfkakehaaGreatFgI
import Derived.Test.YthloabdfkakehaaGreatFgJ
set_option linter.unusedVariables false
set_option linter.unusedSimpArgs false
namespace Go.Proofs.YthloabdfkakehaaGreat
section
open Go.RowKit
theorem OpsRows.below {w w':World} {v:Value} (h:OpsRows w v) (hb:Below w.heap.size w w'):OpsRows w' v:=by
 obtain ⟨A,n,cap,hv,h1,h2,h3⟩:=h
 refine ⟨A,n,cap,hv,h1,h2,fun hn => ?_⟩
 obtain ⟨b,off,hA,hlt,hc⟩:=h3 hn
 refine ⟨b,off,hA,Nat.lt_of_lt_of_le hlt hb.size,fun i hi => ?_⟩
 obtain ⟨u,hu,A2,n2,cap2,e2,g1,g2,g3⟩:=hc i hi
 refine ⟨u,(hb.cell (p:=⟨b,off + i,none⟩) hlt).trans hu,A2,n2,cap2,e2,g1,g2,fun hn2 => ?_⟩
 obtain ⟨b2,off2,e3,hlt2,hc2⟩:=g3 hn2
 refine ⟨b2,off2,e3,Nat.lt_of_lt_of_le hlt2 hb.size,fun j hj => ?_⟩
 obtain ⟨kd,kv,m,port,vid,now,old,p1,p2,p3,z0,z1,z2,z3,z4,z5,z6⟩:=hc2 j hj
 exact ⟨kd,kv,m,port,vid,now,old,p1,p2,p3,(hb.cell (p:=⟨b2,_,none⟩) hlt2).trans z0,(hb.cell (p:=⟨b2,_,none⟩) hlt2).trans z1,(hb.cell (p:=⟨b2,_,none⟩) hlt2).trans z2,(hb.cell (p:=⟨b2,_,none⟩) hlt2).trans z3,(hb.cell (p:=⟨b2,_,none⟩) hlt2).trans z4,(hb.cell (p:=⟨b2,_,none⟩) hlt2).trans z5,(hb.cell (p:=⟨b2,_,none⟩) hlt2).trans z6⟩
theorem pick_mod (x:Int) {P:Nat} (h1:1≤P) (h6:P≤6):∃ p:Nat,p < P∧wrap64 ((IntKind.u64.wrap x).tmod (P:Int))=(p:Int)∧IntKind.i64.wrap ((IntKind.u64.wrap x).tmod (P:Int))=(p:Int):=by
 have h0:0≤IntKind.u64.wrap x:=by rw [IntKind.wrap_u64]; omega
 rw [Int.tmod_eq_emod_of_nonneg h0]
 have h2:=Int.emod_nonneg (IntKind.u64.wrap x) (show (P:Int) ≠ 0 by omega)
 have h3:=Int.emod_lt_of_pos (IntKind.u64.wrap x) (show (0:Int) < P by omega)
 refine ⟨(IntKind.u64.wrap x % (P:Int)).toNat,by omega,?_,?_⟩
 ·rw [IntWalk.wrap64_in _ (by omega)]; omega
 ·rw [IntWalk.i64_in _ (by omega)]; omega
theorem stepF_t (F:FcS) (m:MemS) (a:FaS):(stepF F m a).1.t≤m.t + 1:=by
 have h0:(tickS m).t≤m.t + 1:=Int.le_refl _
 have h1:∀ k v,(putL (tickS m) k v).t≤m.t + 1:=fun _ _ => Int.le_refl _
 have h2:∀ k v,(putC (tickS m) k v).t≤m.t + 1:=fun _ _ => Int.le_refl _
 unfold stepF
 split
 ·unfold tryF
  split
  ·exact h0
  ·split <;> exact h0
 split
 ·unfold takF
  split
  ·exact h1 _ _
  ·exact h0
 split
 ·exact h0
 split
 ·exact h2 _ _
 split
 ·unfold freF
  show MemS.t (if _ then _ else _)≤_
  split
  ·exact h1 _ _
  ·exact h0
 ·show m.t≤m.t + 1
  omega
section
variable {F:FcS} {P:Nat} {ls:Nat→List OpN} {s s':RunS} {p:Nat} {z:Bool} {g:Nat→Nat→Pl}
theorem StepR.t (h:StepR F P ls s p z s'):s'.m.t≤s.m.t + 1:=by
 rcases h with ⟨_,e,_,_⟩ | ⟨_,s1,i,lg,h1,_,e⟩
 ·rw [e]; omega
 ·have h2:s1.m=s.m:=by
   rcases h1 with ⟨e1,_⟩ | ⟨o,_,_,e1,_⟩
   ·rw [e1]
   ·rw [e1]; rfl
  rw [e,← h2]
  exact stepF_t F s1.m (s1.A i)
theorem RunK.N_le (h:RunK F P ls s g) (hP:P≤6) (hl:∀ p,p < P→(ls p).length≤12∧∀ o ∈ ls p,OpOk F o):s.N≤72:=by
 have h9:=sumN_le (f:=s.at_) (c:=12) P fun q hq => Nat.le_trans (h.at_ q hq) (hl q hq).1
 rw [← h.N] at h9
 have:P * 12≤6 * 12:=Nat.mul_le_mul_right _ hP
 omega
theorem run_turn {W w w':World} {lo rb L:Nat} (h:Tch (RunD lo rb L) w w') (hb:Below W.heap.size W w) (h1:W.heap.size≤lo) (h2:W.heap.size≤rb) (h3:W.heap.size≤L):Below W.heap.size W w' :=
 h.below hb (fun y hy => by unfold RunD at hy; omega) hb.size
end
end
section
open Go.RowKit
section
variable {w:World} {lo b fb rb L:Nat} {F:FcS} {P:Nat} {ls:Nat→List OpN} {lv:Nat→Value} {s:RunS}
theorem rows_inL (ab:Nat→Nat) (V:Nat→Value) (p:Nat):rowsS P ls lv ab s V (7 + p)=⟨63,7,lv p,(ls p).length,opc (ls p)⟩:=by
 unfold rowsS rowsF
 rw [if_neg (by omega),if_neg (by omega),if_neg (by omega),if_neg (by omega),if_neg (by omega),if_neg (by omega),if_neg (by omega),Nat.add_sub_cancel_left]
set_option maxRecDepth 20000 in
set_option maxHeartbeats 3200000 in
theorem law12_left (h:RunAt w lo b fb rb L F P ls lv s) (hP:P≤6) (hl:∀ p,p < P→(ls p).length≤12) :
  Calls Tryz.prog 14 #[.pointer (some ⟨rb,0,none⟩)] w (Says (.int .i64 (leftR P ls s:Nat)) w):=by
 obtain ⟨g,ab,Es,V,hM,hK⟩:=h
 obtain ⟨⟨A0,c0,e0,k0,m0⟩,_⟩:=hM.slice (k:=0) (by omega) rfl
 have HM:=Lib.hid hM
 have HK:=Lib.hid hK
 have HL:=Lib.hid hl
 have HE0:=Lib.hid e0
 have r6:w.cell? ⟨rb,6,none⟩=some (V 0):=hM.cell (i:=6) (by omega)
 rw [e0] at r6
 have hP9:((P:Nat):Int)≤6:=by omega
 clear hM hK hl e0 m0 k0
 go_enter Tryz.func14,Tryz.ntmps14
 go_wp2
 go_loopw [3,4] (fun n i wr => ∃ k:Nat,k≤P∧i=.int .i64 k∧n=.int .i64 (sumN (leftO ls s) k:Nat)∧sumN (leftO ls s) k≤k * 13∧Hid (Below w.heap.size w wr)) (fun n i _ => P - (intOf i).toNat)
 case atStart => exact ⟨0,by omega,rfl,rfl,by simp [sumN],Below.refl _ _⟩
 case round =>
  obtain ⟨k,hk,rfl,rfl,hn,HB⟩:=hrel
  have HMr:=Lib.hid (HM.out.below HB.out)
  have rr6:wr.cell? ⟨rb,6,none⟩=some (V 0):=HMr.out.cell (i:=6) (by omega)
  by_cases hlt:k < P
  ·obtain ⟨q0,c0,e0,k0,m0,d0,f0⟩:=(HMr.out.slice (k:=0) (by omega) rfl).2 (by omega)
   obtain ⟨q1,c1,e1,k1,m1,d1,f1⟩:=(HMr.out.slice (k:=1) (by omega) rfl).2 (by omega)
   obtain ⟨q2,c2,e2,k2,m2,d2,f2⟩:=(HMr.out.slice (k:=2) (by omega) rfl).2 (by omega)
   unfold maxLen at m0 m1 m2
   have a0:=(d0 k (by omega)).trans (show ((List.range P).map lv)[k]?=some (lv k) by simp [List.getElem?_range hlt])
   have a1:=(d1 k (by omega)).trans (kvI_at _ hlt)
   have a2:=(d2 k (by omega)).trans (kvI_at _ hlt)
   obtain ⟨⟨Ap,cp,ep,kp,mp⟩,_⟩:=HMr.out.slice (k:=7 + k) (by omega) (rows_inL ab V k)
   rw [ep] at a0
   have r7:wr.cell? ⟨rb,7,none⟩=some (V 1):=HMr.out.cell (i:=7) (by omega)
   have r8:wr.cell? ⟨rb,8,none⟩=some (V 2):=HMr.out.cell (i:=8) (by omega)
   rw [e0] at rr6
   rw [e1] at r7
   rw [e2] at r8
   have hat:=HK.out.at_ k hlt
   have hll:=HL.out k hlt
   have hnw:=HK.out.nw k hlt
   have hsu:sumN (leftO ls s) (k + 1)=sumN (leftO ls s) k + leftO ls s k:=rfl
   have hlo:leftO ls s k=(ls k).length - s.at_ k + if s.nw k=-1 then 0 else 1:=rfl
   obtain ⟨n,hne⟩:∃ n,n=sumN (leftO ls s) k:=⟨_,rfl⟩
   obtain ⟨l,hle⟩:∃ l,l=(ls k).length:=⟨_,rfl⟩
   obtain ⟨a,hae⟩:∃ a,a=s.at_ k:=⟨_,rfl⟩
   rw [← hle] at hll hat hlo a0 kp
   rw [← hae] at a1 hat hlo
   rw [← hne] at hn hsu ⊢
   obtain ⟨n1,hn1⟩:∃ n1:Nat,n1=n + l:=⟨_,rfl⟩
   obtain ⟨n2,hn2⟩:∃ n2:Nat,n2=n1 - a:=⟨_,rfl⟩
   obtain ⟨n3,hn3⟩:∃ n3:Nat,n3=n2 + 1:=⟨_,rfl⟩
   have y1:wrap64 ((n:Int) + (l:Int))=(n1:Int)∧IntKind.i64.wrap ((n:Int) + (l:Int))=(n1:Int):=by
    rw [show (n:Int) + (l:Int)=(n1:Int) by omega]
    exact ⟨IntWalk.wrap64_in _ (by omega),IntWalk.i64_in _ (by omega)⟩
   have y2:wrap64 ((n1:Int) - (a:Int))=(n2:Int)∧IntKind.i64.wrap ((n1:Int) - (a:Int))=(n2:Int):=by
    rw [show (n1:Int) - (a:Int)=(n2:Int) by clear y1; omega]
    exact ⟨IntWalk.wrap64_in _ (by clear y1; omega),IntWalk.i64_in _ (by clear y1; omega)⟩
   have y3:wrap64 ((n2:Int) + 1)=(n3:Int)∧IntKind.i64.wrap ((n2:Int) + 1)=(n3:Int):=by
    rw [show (n2:Int) + 1=(n3:Int) by clear y1 y2; omega]
    exact ⟨IntWalk.wrap64_in _ (by clear y1 y2; omega),IntWalk.i64_in _ (by clear y1 y2; omega)⟩
   obtain ⟨y1,y4⟩:=y1
   obtain ⟨y2,y5⟩:=y2
   obtain ⟨y3,y6⟩:=y3
   have g0:(0:Int)≤(k:Int):=Int.natCast_nonneg _
   have g1:(k:Int) < (P:Int):=by omega
   have HR:Hid (∀ z:Nat,(s.nw k=-1→z=n2)→(s.nw k ≠ -1→z=n3)→z=sumN (leftO ls s) (k + 1)∧sumN (leftO ls s) (k + 1)≤(k + 1) * 13):=fun z h1 h2 => by
    clear y1 y2 y3 y4 y5 y6
    by_cases e:s.nw k=-1
    ·rw [if_pos e] at hlo
     have:=h1 e
     omega
    ·rw [if_neg e] at hlo
     have:=h2 e
     omega
   rcases hnw with hnw | ⟨i,hi,hnw,_,_⟩
   ·obtain ⟨z1,z2⟩:=HR.out n2 (fun _ => rfl) (fun h => absurd hnw h)
    have Z1:=Lib.hid z1
    have Z2:=Lib.hid z2
    rw [hnw] at a2
    clear d0 d1 d2 f0 f1 f2 e0 e1 e2 ep hat hll hsu hlo hne hle hae hn1 hn2 hn3 hn HR z1 z2 m0 m1 m2 mp
    go_wp2_with fail
    go_quiet (fail)
    go_wp2
    go_roundw
    case rel => exact ⟨k + 1,by omega,by go_num,by rw [← Z1.out],Z2.out,HB.out.trans (below_drewN (Below.refl _ _) _ |>.mono HB.out.size)⟩
    case measure => simp [intOf]; omega
   ·obtain ⟨z1,z2⟩:=HR.out n3 (fun h => by omega) (fun _ => rfl)
    have Z1:=Lib.hid z1
    have Z2:=Lib.hid z2
    rw [hnw] at a2
    have i0:decide ((0:Int)≤(i:Int))=true:=decide_eq_true (Int.natCast_nonneg _)
    have i1:(0:Int)≤(i:Int):=Int.natCast_nonneg _
    clear d0 d1 d2 f0 f1 f2 e0 e1 e2 ep hat hll hsu hlo hne hle hae hn1 hn2 hn3 hn HR z1 z2 m0 m1 m2 mp hnw hi
    go_wp2_with fail
    go_quiet (fail)
    go_wp2
    go_roundw
    case rel => exact ⟨k + 1,by omega,by go_num,by rw [← Z1.out],Z2.out,HB.out.trans (below_drewN (Below.refl _ _) _ |>.mono HB.out.size)⟩
    case measure => simp [intOf]; omega
  ·have hkP:k=P:=by omega
   subst hkP
   rw [HE0.out] at rr6
   have g2:decide ((k:Int) < (k:Int))=false:=decide_eq_false (by omega)
   clear hn
   go_wp2
   go_ret
   exact ⟨rfl,HB.out⟩
end
end
section
open Go.RowKit
section
variable {w w':World} {lo b fb L x rb K:Nat} {F:FcS} {m m':MemS} {N:Nat} {A:Nat→FaS} {ab:Nat→Nat} {Es:Nat→Nat→Prop} {g g':Nat→Nat→Pl} {R R':Nat→RowV} {V V':Nat→Value} {P:Nat} {ls:Nat→List OpN} {lv:Nat→Value} {s:RunS}
theorem RunM.addrow (h:RunM w lo b fb rb L F m N A ab Es g K R V) (T:TypeId) (z:Nat):RunM w lo b fb rb L F m N A ab Es g (K + 1) (updV R K ⟨T,z,.slice none 0 0,0,[]⟩) V:=by
 refine ⟨h.acts,h.row,⟨fun i hi => ?_,fun i j hi hj hne y hy => ?_⟩,fun i hi y hy hd => ?_,h.ord⟩
 ·by_cases e:i=K
  ·rw [e,updV_same]; exact World.ownsRow_nil _ _ _ _
  ·rw [updV_other _ _ e]; exact h.rows.own i (by omega)
 ·by_cases e:i=K
  ·rw [e,updV_same] at hy; cases hy
  ·rw [updV_other _ _ e] at hy
   by_cases e2:j=K
   ·rw [e2,updV_same]; exact fun h9 => by cases h9
   ·rw [updV_other _ _ e2]; exact h.rows.dis i j (by omega) (by omega) hne y hy
 ·obtain ⟨k,hk,e⟩:=hd
  by_cases e9:k=K
  ·rw [e9,updV_same] at e; cases e
  ·rw [updV_other _ _ e9] at e
   exact h.far i hi y hy ⟨k,by omega,e⟩
theorem RunM.push (h:RunM w lo b fb rb L F m N A ab Es g K R V) {k:Nat} (hk:k < K) (hk7:k < 7) {T:TypeId} {z n n':Nat} {v v':Value} {l l':List Value} (hr:R k=⟨T,z,v,n,l⟩) {o:Obj} (how:w'.ownsRow L T z v' n' l') (hg:(w.alloc o).grownBy w' v.ownBlock) (hl:v'.ownBlock=v.ownBlock ∨ v'.ownBlock=some (w.alloc o).heap.size) :
  RunM w' lo b fb rb L F m N A ab Es g K (updV R k ⟨T,z,v',n',l'⟩) V∧RunM (w'.setCell ⟨rb,6 + k,none⟩ v') lo b fb rb L F m N A ab Es g K (updV R k ⟨T,z,v',n',l'⟩) (updW V k v')∧Tch (RunD lo rb L) w (w'.setCell ⟨rb,6 + k,none⟩ v') :=
 ⟨h.app hk hr how hg hl,(h.app hk hr how hg hl).setV hk7 v',((h.rows.app hk hr how hg hl).2.mono fun x _ hx => .inr (.inr (h.rows.lt hx).1)).setCell (.inr (.inl rfl)) _⟩
def run0 (C K:Nat):RunS:=⟨⟨C,K,fun _ => 0,fun _ => -1,0⟩,0,fun _ => newA 0 (.look 0 0) 0 0 0 0 0,[],fun _ => 0,fun _ => 0,fun _ => 0,fun _ => -1,fun _ => ⟨0,0,0,0,0,0,0⟩⟩
def nilV (k:Nat):Value:=.slice none 0 0
theorem RunM.start {C K9:Nat} (hf:FdbAt w lo b fb F ⟨C,K9,fun _ => 0,fun _ => -1,0⟩) (ls:Nat→List OpN) (lv:Nat→Value) (ab:Nat→Nat) (Es:Nat→Nat→Prop) :
  RunM (w.alloc (.cells #[.pointer (some ⟨b,0,none⟩),.pointer (some ⟨fb,0,none⟩),.int .i64 (F.S:Nat),.int .i64 (F.B:Nat),.int .i64 (F.n:Nat),.int .i64 (F.tr:Nat),.slice none 0 0,.slice none 0 0,.slice none 0 0,.slice none 0 0,.slice none 0 0,.slice none 0 0,.slice none 0 0,.bool false] 36)) lo b fb w.heap.size (w.heap.size + 1) F (run0 C K9).m 0 (run0 C K9).A ab Es (fun _ _ => pl0) (7 + 0) (rowsS 0 ls lv ab (run0 C K9) nilV) nilV:=by
 have hrow:=World.rowIs_alloc w #[.pointer (some ⟨b,0,none⟩),.pointer (some ⟨fb,0,none⟩),.int .i64 (F.S:Nat),.int .i64 (F.B:Nat),.int .i64 (F.n:Nat),.int .i64 (F.tr:Nat),.slice none 0 0,.slice none 0 0,.slice none 0 0,.slice none 0 0,.slice none 0 0,.slice none 0 0,.slice none 0 0,.bool false] 36 (runF b fb F nilV) (fun i hi => by
  match i,hi with
  | 0,_ => rfl
  | 1,_ => rfl
  | 2,_ => rfl
  | 3,_ => rfl
  | 4,_ => rfl
  | 5,_ => rfl
  | 6,_ => rfl
  | 7,_ => rfl
  | 8,_ => rfl
  | 9,_ => rfl
  | 10,_ => rfl
  | 11,_ => rfl
  | 12,_ => rfl
  | 13,_ => rfl
  | _ + 14,hh => exact absurd hh (by simp))
 have hb:=(Below.refl w.heap.size w).alloc (Nat.le_refl _) (.cells #[.pointer (some ⟨b,0,none⟩),.pointer (some ⟨fb,0,none⟩),.int .i64 (F.S:Nat),.int .i64 (F.B:Nat),.int .i64 (F.n:Nat),.int .i64 (F.tr:Nat),.slice none 0 0,.slice none 0 0,.slice none 0 0,.slice none 0 0,.slice none 0 0,.slice none 0 0,.slice none 0 0,.bool false] 36)
 refine ⟨ActsAt.none_ (hf.below hb) _ _ _,hrow,⟨fun i hi => ?_,fun i j hi hj hne y hy => ?_⟩,fun i hi => absurd hi (by omega),hf.lt,Nat.lt_succ_self _,by simp⟩
 ·rcases (show i=0 ∨ i=1 ∨ i=2 ∨ i=3 ∨ i=4 ∨ i=5 ∨ i=6 by omega) with rfl | rfl | rfl | rfl | rfl | rfl | rfl <;> exact World.ownsRow_nil _ _ _ _
 ·exfalso
  rcases (show i=0 ∨ i=1 ∨ i=2 ∨ i=3 ∨ i=4 ∨ i=5 ∨ i=6 by omega) with rfl | rfl | rfl | rfl | rfl | rfl | rfl <;> cases hy
theorem made_rows (C K9 k j:Nat) (lj:List OpN) (hj:lj.length=j) (v' v0 v1 v2:Value) (i:Nat) (hi:i < 7 + (k + 1)) :
  rowsS (k + 1) (fun p => if p=k then lj else ls p) (fun p => if p=k then v' else lv p) ab (run0 C K9) (updW (updW (updW V 0 v0) 1 v1) 2 v2) i =
  updV (updV (updV (updV (rowsS k ls lv ab (run0 C K9) V) (7 + k) ⟨63,7,v',j,opc lj⟩) 0 ⟨34,1,v0,k + 1,(List.range k).map lv ++ [v']⟩) 1 ⟨3,1,v1,k + 1,kvI (fun _ => 0) k ++ [.int .i64 0]⟩) 2 ⟨3,1,v2,k + 1,kvI (fun _ => -1) k ++ [.int .i64 (-1)]⟩ i:=by
 have e1:kvI (fun _ => (0:Int)) (k + 1)=kvI (fun _ => 0) k ++ [.int .i64 0]:=by rw [← kvI_succ]; exact kvI_congr fun i hi => by unfold updI; split <;> rfl
 have e2:kvI (fun _ => (-1:Int)) (k + 1)=kvI (fun _ => -1) k ++ [.int .i64 (-1)]:=by rw [← kvI_succ]; exact kvI_congr fun i hi => by unfold updI; split <;> rfl
 have e3:(List.range (k + 1)).map (fun p => if p=k then v' else lv p)=(List.range k).map lv ++ [v']:=by
  rw [List.range_succ,List.map_append]
  congr 1
  ·apply List.map_congr_left
   intro i hi
   rw [if_neg (by have:=List.mem_range.1 hi; omega)]
  ·simp
 rw [← e1,← e2,← e3]
 rcases (show i=0 ∨ i=1 ∨ i=2 ∨ i=3 ∨ i=4 ∨ i=5 ∨ i=6 ∨ 7≤i by omega) with rfl | rfl | rfl | rfl | rfl | rfl | rfl | h7
 ·rfl
 ·rfl
 ·rfl
 ·unfold updV; rw [if_neg (by omega),if_neg (by omega),if_neg (by omega),if_neg (by omega)]; rfl
 ·unfold updV; rw [if_neg (by omega),if_neg (by omega),if_neg (by omega),if_neg (by omega)]; rfl
 ·unfold updV; rw [if_neg (by omega),if_neg (by omega),if_neg (by omega),if_neg (by omega)]; rfl
 ·unfold updV; rw [if_neg (by omega),if_neg (by omega),if_neg (by omega),if_neg (by omega)]; rfl
 ·obtain ⟨p,rfl⟩:∃ p,i=7 + p:=⟨i - 7,by omega⟩
  have hR:∀ (P:Nat) (ls:Nat→List OpN) (lv:Nat→Value) (V:Nat→Value),rowsS P ls lv ab (run0 C K9) V (7 + p)=⟨63,7,lv p,(ls p).length,opc (ls p)⟩:=fun P ls lv V => by
   unfold rowsS rowsF
   rw [if_neg (by omega),if_neg (by omega),if_neg (by omega),if_neg (by omega),if_neg (by omega),if_neg (by omega),if_neg (by omega),Nat.add_sub_cancel_left]
  unfold updV
  rw [if_neg (by omega),if_neg (by omega),if_neg (by omega),hR]
  by_cases e:p=k
  ·subst e
   rw [if_pos rfl,if_pos rfl,if_pos rfl,hj]
  ·rw [if_neg e,if_neg e,if_neg (by omega),hR]
end
end
section
open Go.RowKit
structure IdleR (s s':RunS):Prop where
 A:s'.A=s.A
 at_:s'.at_=s.at_
 nw:s'.nw=s.nw
 h:s'.m.h=s.m.h
theorem IdleR.rfl_ (s:RunS):IdleR s s:=⟨rfl,rfl,rfl,rfl⟩
theorem IdleR.trans {a b c:RunS} (h:IdleR a b) (k:IdleR b c):IdleR a c:=⟨k.A.trans h.A,k.at_.trans h.at_,k.nw.trans h.nw,k.h.trans h.h⟩
def StuckR (ls:Nat→List OpN) (s:RunS) (p:Nat):Prop:=(s.nw p=-1∧s.at_ p=(ls p).length) ∨ ∃ i:Nat,s.nw p=(i:Int)∧Blocked s.m (s.A i)
section
variable {F:FcS} {C L P:Nat} {ls:Nat→List OpN} {s s' s0:RunS} {g:Nat→Nat→Pl} {Q:Nat→Bool} {p:Nat} {z:Bool}
theorem IdleR.mu (h:IdleR s s'):muR F P ls Q s'=muR F P ls Q s:=by
 unfold muR muO
 rw [h.A,h.at_,h.nw]
theorem IdleR.stuck (h:IdleR s s') (hs:StuckR ls s' p):StuckR ls s p:=by
 unfold StuckR at *
 unfold Blocked at *
 rw [h.A,h.at_,h.nw,h.h] at hs
 exact hs
theorem go_idle {i:Nat} (h:RunK F P ls s g) (hi:i < s.N) (hp:p < P) (hnw:s.nw p=(i:Int)) (hb:Blocked s.m (s.A i)) (lg:List Nat):IdleR s (goR F s p i lg):=by
 have e:=blocked_step (F:=F) hb
 have hst:(s.A i).st=2:=hb.1
 refine ⟨?_,rfl,?_,?_⟩
 ·show updA s.A i (stepF F s.m (s.A i)).2=s.A
  rw [e]
  funext j
  unfold updA
  split
  ·rename_i h9; rw [h9]
  ·rfl
 ·show (if (stepF F s.m (s.A i)).2.st=0 then updI s.nw p (-1) else s.nw)=s.nw
  rw [e,if_neg (by show ¬ (s.A i).st=0; omega)]
 ·show (stepF F s.m (s.A i)).1.h=s.m.h
  rw [e]
  rfl
theorem step_less (h:RunK F P ls s g) (hf:FFit F C L) (hp:p < P) (hQ:Q p=true) (hr:StepR F P ls s p z s'):muR F P ls Q s' < muR F P ls Q s ∨ (IdleR s s'∧StuckR ls s p):=by
 rcases hr with ⟨_,e,h1,h2⟩ | ⟨_,s1,i,lg,h1,hi,e⟩
 ·rw [e]
  exact .inr ⟨IdleR.rfl_ s,.inl ⟨h1,h2⟩⟩
 ·rcases h1 with ⟨e1,hnw⟩ | ⟨o,ho,hok,e1,ei,hnw,hat⟩
  ·subst e1
   by_cases hb:Blocked s1.m (s1.A i)
   ·rw [e]
    exact .inr ⟨go_idle h hi hp hnw hb lg,.inr ⟨i,hnw,hb⟩⟩
   ·rw [e]
    exact .inl (h.go_mu hp hi hnw lg hb hQ)
  ·left
   have hk1:RunK F P ls s1 g:=by rw [e1]; exact h.beg hf hp hnw hat hok
   have hm1:muR F P ls Q s1 < muR F P ls Q s:=by rw [e1]; exact h.beg_mu hf hp hnw hat hok hQ
   have hnw1:s1.nw p=(i:Int):=by rw [e1,ei]; exact if_pos rfl
   rw [e]
   by_cases hb:Blocked s1.m (s1.A i)
   ·rw [(go_idle hk1 hi hp hnw1 hb lg).mu]
    exact hm1
   ·exact Nat.lt_trans (hk1.go_mu hp hi hnw1 lg hb hQ) hm1
def RoundR (F:FcS) (P:Nat) (ls:Nat→List OpN) (Q:Nat→Bool) (s0:RunS) (j:Nat) (s:RunS):Prop :=
 muR F P ls Q s < muR F P ls Q s0 ∨ (IdleR s0 s∧∀ p,p < j→Q p=true→StuckR ls s0 p)
theorem RoundR.start (s:RunS):RoundR F P ls Q s 0 s:=.inr ⟨IdleR.rfl_ s,fun p hp => absurd hp (by omega)⟩
theorem RoundR.step {j:Nat} (h:RoundR F P ls Q s0 j s) (hk:RunK F P ls s g) (hf:FFit F C L) (hj:j < P) (hQ:Q j=true) (hr:StepR F P ls s j z s'):RoundR F P ls Q s0 (j + 1) s':=by
 have h9:=step_less hk hf hj hQ hr
 rcases h with h | ⟨h1,h2⟩
 ·left
  rcases h9 with h9 | ⟨h9,_⟩
  ·omega
  ·rw [h9.mu]; exact h
 ·rcases h9 with h9 | ⟨h9,h8⟩
  ·left
   rw [h1.mu] at h9
   exact h9
  ·refine .inr ⟨h1.trans h9,fun p hp hq => ?_⟩
   by_cases e:p=j
   ·rw [e]; exact h1.stuck h8
   ·exact h2 p (by omega) hq
theorem RoundR.done (h:RoundR F P ls Q s0 P s) (hk:RunK F P ls s0 g) (hQ:∀ p,p < P→Q p=false→∀ i:Nat,s0.nw p=(i:Int)→(s0.A i).held=0) :
  muR F P ls Q s < muR F P ls Q s0 ∨ ∀ p,p < P→Q p=true→s0.nw p=-1∧s0.at_ p=(ls p).length:=by
 rcases h with h | ⟨_,h2⟩
 ·exact .inl h
 ·exact .inr (hk.dead hQ fun p hp hq => h2 p hp hq)
theorem leftR_zero (h:∀ p,p < P→s.nw p=-1∧s.at_ p=(ls p).length):leftR P ls s=0:=by
 have key:∀ k,k≤P→sumN (leftO ls s) k=0:=fun k => by
  induction k with
  | zero => exact fun _ => rfl
  | succ k ih =>
   intro hk
   obtain ⟨h1,h2⟩:=h k (by omega)
   rw [sumN,ih (by omega)]
   unfold leftO
   rw [if_pos h1,h2]
   omega
 exact key P (Nat.le_refl P)
theorem leftR_all (hk:RunK F P ls s g) (h:leftR P ls s=0):∀ p,p < P→s.nw p=-1∧s.at_ p=(ls p).length:=by
 have key:∀ k,k≤P→sumN (leftO ls s) k=0→∀ p,p < k→leftO ls s p=0:=fun k => by
  induction k with
  | zero => exact fun _ _ p hp => absurd hp (by omega)
  | succ k ih =>
   intro hk h0 p hp
   rw [sumN] at h0
   by_cases e:p=k
   ·rw [e]; omega
   ·exact ih (by omega) (by omega) p (by omega)
 intro p hp
 have h0:=key P (Nat.le_refl P) h p hp
 have hat:=hk.at_ p hp
 unfold leftO at h0
 by_cases e:s.nw p=-1
 ·rw [if_pos e] at h0
  exact ⟨e,by omega⟩
 ·rw [if_neg e] at h0
  omega
theorem leftR_le (hl:∀ p,p < P→(ls p).length≤12∧∀ o ∈ ls p,OpOk F o):leftR P ls s≤P * 13:=by
 refine sumN_le P fun p hp => ?_
 have:=(hl p hp).1
 unfold leftO
 split <;> omega
theorem muR_zero (hk:RunK F P ls s g) (h:muR F P ls Q s=0):∀ p,p < P→Q p=true→s.nw p=-1∧s.at_ p=(ls p).length:=by
 have key:∀ k,k≤P→sumN (fun p => if Q p=true then muO F ls s p else 0) k=0→∀ p,p < k→(if Q p=true then muO F ls s p else 0)=0:=fun k => by
  induction k with
  | zero => exact fun _ _ p hp => absurd hp (by omega)
  | succ k ih =>
   intro hk h0 p hp
   rw [sumN] at h0
   by_cases e:p=k
   ·rw [e]; omega
   ·exact ih (by omega) (by omega) p (by omega)
 intro p hp hq
 have h0:=key P (Nat.le_refl P) h p hp
 rw [if_pos hq] at h0
 unfold muO at h0
 have hat:=hk.at_ p hp
 have hb:0 < boundF F:=by unfold boundF; omega
 have h1:((ls p).length - s.at_ p) * boundF F=0:=by omega
 rcases Nat.mul_eq_zero.1 h1 with h2 | h2
 ·refine ⟨?_,by omega⟩
  rcases hk.nw p hp with e | ⟨i,hi,e,hst,_⟩
  ·exact e
  ·exfalso
   rw [if_neg (by omega),e,Int.toNat_natCast] at h0
   have:=mu_pos hk.run.inv hi hst
   omega
 ·omega
theorem over_all (hk:RunK F P ls s g) (h:∀ p,p < P→s.nw p=-1∧s.at_ p=(ls p).length):∀ i,i < s.N→(s.A i).st=0:=by
 intro i hi
 rcases Nat.decEq (s.A i).st 0 with h0 | h0
 ·obtain ⟨p,hp,_,h2⟩:=hk.act i hi h0
  have:=(h p hp).1
  omega
 ·exact h0
theorem bound_le (hf:FFit F C L):boundF F≤10000:=by
 have hS:=hf.S
 have hB:=hf.B
 have hn:=hf.n
 have ht:=hf.tr
 unfold boundF
 have h1:F.tr * (4 + 4 * F.n)≤8 * 36:=Nat.mul_le_mul ht.2 (by omega)
 have h2:F.B * (8 + 8 * F.n)≤16 * 72:=Nat.mul_le_mul hB.2 (by omega)
 have h3:F.S * (4 + F.B * (8 + 8 * F.n))≤8 * (4 + 16 * 72):=Nat.mul_le_mul hS.2 (by omega)
 omega
end
end
end Go.Proofs.YthloabdfkakehaaGreat
