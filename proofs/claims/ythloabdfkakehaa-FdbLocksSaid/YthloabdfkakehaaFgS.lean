/-
  Words and contracts that a statement's proof rests on (OpenBk, OpenOl, FgP, FgS, FeH, MemC). No statement is proved here.
-/
import Derived.WalkKit
import Derived.Test.YthloabdfkakehaaFgJ
import Derived.Test.YthloabdfkakehaaOpen
import Derived.Test.YthloabdfkakehaaFgF
import Derived.Test.YthloabdfkakehaaFeK
set_option linter.unusedVariables false
set_option linter.unusedSimpArgs false
namespace Go.Proofs.Ythloabdfkakehaa
section
open Go.ChangeShapes Go.WideShapes Go.RowKit Go.Deep
def Ops11 (w:World) (v:Value):Prop:=∃ (A:Option Addr) (n cap:Nat),v=.slice A n cap∧n≤cap∧cap≤maxLen∧(0 < n→∃ b off,A=some ⟨b,off,none⟩∧b < w.heap.size ∧
 ∀ i,i < n→∃ (kd kv:Int) (m:Nat) (port vid:Int) (now old:Nat),m < 18446744073709551616∧now < 4294967296∧old < 4294967296∧w.cell? ⟨b,off + i * 7,none⟩=some (.int .i64 kd)∧w.cell? ⟨b,off + i * 7 + 1,none⟩=some (.int .i64 kv)∧w.cell? ⟨b,off + i * 7 + 2,none⟩=some (.int .u64 (m:Int))∧w.cell? ⟨b,off + i * 7 + 3,none⟩=some (.int .i64 port)∧w.cell? ⟨b,off + i * 7 + 4,none⟩=some (.int .i64 vid)∧w.cell? ⟨b,off + i * 7 + 5,none⟩=some (.int .u32 (now:Int))∧w.cell? ⟨b,off + i * 7 + 6,none⟩=some (.int .u32 (old:Int)))
section
variable {H:Type} {enc:TypeId × Value→H} {P:Program} {w:World} {held:Bool} {base:Nat} {spare:Nat→Bool}
end
end
section
open Go.ChangeShapes Go.WideShapes Go.RowKit Go.Deep
def OpsRows (w:World) (v:Value):Prop:=∃ (A:Option Addr) (n cap:Nat),v=.slice A n cap∧n≤cap∧cap≤maxLen∧(0 < n→∃ b off,A=some ⟨b,off,none⟩∧b < w.heap.size ∧
 ∀ i,i < n→∃ (u:Value),w.cell? ⟨b,off + i,none⟩=some u∧Ops11 w u)
section
variable {H:Type} {enc:TypeId × Value→H} {P:Program} {w:World} {held:Bool}
theorem Holds1.ops11 {t e t0 t1 t2 t3 t4 t5 t6:TypeId} {u:Value} (h:Holds1 enc P w 0 (fun _ => true) held t u) (ht:P.underlying t=some (.slice e)) (hl:leaves P 8 e=some [t0,t1,t2,t3,t4,t5,t6]) (hC:P.cellsOf e=7)
  (h0:P.underlying t0=some (.int .i64)) (h1:P.underlying t1=some (.int .i64)) (h2:P.underlying t2=some (.int .u64)) (h3:P.underlying t3=some (.int .i64)) (h4:P.underlying t4=some (.int .i64)) (h5:P.underlying t5=some (.int .u32)) (h6:P.underlying t6=some (.int .u32)):Ops11 w u:=by
 obtain ⟨fuel,x,hf⟩:=h
 rcases open_slice ht hf with ⟨hcs,_⟩ | ⟨a,len,c,m,k,D,Pl,hcs,_,hl1,hm,hmm,_,hi⟩
 ·simp at hcs
  subst hcs
  exact ⟨none,0,0,rfl,Nat.le_refl _,by simp [maxLen],fun h => absurd h (by omega)⟩
 ·simp at hcs
  subst hcs
  simp only [if_true] at hmm
  subst hmm
  have hat:∀ i,i < m→∃ (kd kv:Int) (q:Nat) (port vid:Int) (now old:Nat),q < 18446744073709551616∧now < 4294967296∧old < 4294967296∧w.cell? ((a.add (i * 7)).add 0)=some (.int .i64 kd)∧w.cell? ((a.add (i * 7)).add 1)=some (.int .i64 kv)∧w.cell? ((a.add (i * 7)).add 2)=some (.int .u64 (q:Int))∧w.cell? ((a.add (i * 7)).add 3)=some (.int .i64 port)∧w.cell? ((a.add (i * 7)).add 4)=some (.int .i64 vid)∧w.cell? ((a.add (i * 7)).add 5)=some (.int .u32 (now:Int))∧w.cell? ((a.add (i * 7)).add 6)=some (.int .u32 (old:Int)):=by
   intro i him
   obtain ⟨cs',hc,ht'⟩:=hi i him
   rw [hC] at hc
   obtain ⟨_,hcl,hcat⟩:=World.cells?_some hc
   obtain ⟨u0,e0,g0⟩:=leaves_held 8 e _ _ _ _ hl (by omega) ht' 0 t0 rfl
   obtain ⟨u1,e1,g1⟩:=leaves_held 8 e _ _ _ _ hl (by omega) ht' 1 t1 rfl
   obtain ⟨u2,e2,g2⟩:=leaves_held 8 e _ _ _ _ hl (by omega) ht' 2 t2 rfl
   obtain ⟨u3,e3,g3⟩:=leaves_held 8 e _ _ _ _ hl (by omega) ht' 3 t3 rfl
   obtain ⟨u4,e4,g4⟩:=leaves_held 8 e _ _ _ _ hl (by omega) ht' 4 t4 rfl
   obtain ⟨u5,e5,g5⟩:=leaves_held 8 e _ _ _ _ hl (by omega) ht' 5 t5 rfl
   obtain ⟨u6,e6,g6⟩:=leaves_held 8 e _ _ _ _ hl (by omega) ht' 6 t6 rfl
   obtain ⟨kd,rfl,p0⟩:=g0.i64 h0
   obtain ⟨kv,rfl,p1⟩:=g1.i64 h1
   obtain ⟨q,rfl,p2⟩:=g2.u64 h2
   obtain ⟨port,rfl,p3⟩:=g3.i64 h3
   obtain ⟨vid,rfl,p4⟩:=g4.i64 h4
   obtain ⟨now,rfl,p5⟩:=g5.u32 h5
   obtain ⟨old,rfl,p6⟩:=g6.u32 h6
   exact ⟨kd,kv,q,port,vid,now,old,p2,p5,p6,(hcat 0 (by omega)).trans e0,(hcat 1 (by omega)).trans e1,(hcat 2 (by omega)).trans e2,(hcat 3 (by omega)).trans e3,(hcat 4 (by omega)).trans e4,(hcat 5 (by omega)).trans e5,(hcat 6 (by omega)).trans e6⟩
  rcases Nat.eq_zero_or_pos len with hz | hz
  ·exact ⟨some a,len,m,rfl,hl1,hm,fun hn => absurd hn (by omega)⟩
  ·obtain ⟨b,off,spot⟩:=a
   have hspot:spot=none:=by
    obtain ⟨_,_,_,_,_,_,_,_,_,_,x0,_⟩:=hat 0 (by omega)
    have:=World.cell?_spot x0
    simpa [Addr.add] using this
   subst hspot
   have hadd:∀ x y,((⟨b,off,none⟩:Addr).add x).add y=⟨b,off + x + y,none⟩:=fun x y => by
    unfold Addr.add
    by_cases h1:x=0 <;> by_cases h2:y=0 <;> simp_all <;> omega
   refine ⟨some ⟨b,off,none⟩,len,m,rfl,hl1,hm,fun _ => ⟨b,off,rfl,?_,fun i hi9 => ?_⟩⟩
   ·obtain ⟨_,_,_,_,_,_,_,_,_,_,x0,_⟩:=hat 0 (by omega)
    rw [hadd] at x0
    exact World.block_lt_of_cell? w _ x0
   ·obtain ⟨kd,kv,q,port,vid,now,old,p2,p5,p6,x0,x1,x2,x3,x4,x5,x6⟩:=hat i (by omega)
    rw [hadd] at x0 x1 x2 x3 x4 x5 x6
    exact ⟨kd,kv,q,port,vid,now,old,p2,p5,p6,x0,x1,x2,x3,x4,x5,x6⟩
theorem open_opsrows {r:Reach} {b0:Nat} {t e e2 t0 t1 t2 t3 t4 t5 t6:TypeId} {v:Value} {d:DataW H} {p:List MemPlace} (ht:P.underlying t=some (.slice e)) (hl:leaves P 8 e=some [e]) (hC:P.cellsOf e=1) (ht2:P.underlying e=some (.slice e2)) (hl2:leaves P 8 e2=some [t0,t1,t2,t3,t4,t5,t6]) (hC2:P.cellsOf e2=7)
  (h0:P.underlying t0=some (.int .i64)) (h1:P.underlying t1=some (.int .i64)) (h2:P.underlying t2=some (.int .u64)) (h3:P.underlying t3=some (.int .i64)) (h4:P.underlying t4=some (.int .i64)) (h5:P.underlying t5=some (.int .u32)) (h6:P.underlying t6=some (.int .u32))
  (hv:Value.okWide P w r b0 t v) (h:DataW.Trod enc P w 0 (fun _ => true) held t v d p):OpsRows w v:=by
 obtain ⟨A,n,cap,rfl,c1,c2,c3⟩:=open_flats ht hl (by simpa using hC) (by simp) hv h
 refine ⟨A,n,cap,rfl,c1,c2,fun hn => ?_⟩
 obtain ⟨b,off,rfl,hb,hc⟩:=c3 hn
 refine ⟨b,off,rfl,hb,fun i hi => ?_⟩
 obtain ⟨u,e0,g0⟩:=hc i hi 0 e rfl
 exact ⟨u,by simpa using e0,g0.ops11 ht2 hl2 hC2 h0 h1 h2 h3 h4 h5 h6⟩
end
end
section
open Go.RowKit
theorem OpsRows.below {w w':World} {v:Value} (h:OpsRows w v) (hb:Below w.heap.size w w'):OpsRows w' v:=by
 obtain ⟨A,n,cap,hv,h1,h2,h3⟩:=h
 refine ⟨A,n,cap,hv,h1,h2,fun hn => ?_⟩
 obtain ⟨b,off,hA,hlt,hc⟩:=h3 hn
 refine ⟨b,off,hA,Nat.lt_of_lt_of_le hlt hb.size,fun i hi => ?_⟩
 obtain ⟨u,hu,A2,n2,cap2,e2,g1,g2,g3⟩:=hc i hi
 refine ⟨u,(hb.cell (p:=⟨b,off + i,none⟩) hlt).trans hu,A2,n2,cap2,e2,g1,g2,fun hn2 => ?_⟩
 obtain ⟨b2,off2,e3,hlt2,hc2⟩:=g3 hn2
 refine ⟨b2,off2,e3,Nat.lt_of_lt_of_le hlt2 hb.size,fun j hj => ?_⟩
 obtain ⟨kd,kv,m,port,vid,now,old,p1,p2,p3,z0,z1,z2,z3,z4,z5,z6⟩:=hc2 j hj
 exact ⟨kd,kv,m,port,vid,now,old,p1,p2,p3,(hb.cell (p:=⟨b2,_,none⟩) hlt2).trans z0,(hb.cell (p:=⟨b2,_,none⟩) hlt2).trans z1,(hb.cell (p:=⟨b2,_,none⟩) hlt2).trans z2,(hb.cell (p:=⟨b2,_,none⟩) hlt2).trans z3,(hb.cell (p:=⟨b2,_,none⟩) hlt2).trans z4,(hb.cell (p:=⟨b2,_,none⟩) hlt2).trans z5,(hb.cell (p:=⟨b2,_,none⟩) hlt2).trans z6⟩
theorem pick_mod (x:Int) {P:Nat} (h1:1≤P) (h6:P≤6):∃ p:Nat,p < P∧wrap64 ((IntKind.u64.wrap x).tmod (P:Int))=(p:Int)∧IntKind.i64.wrap ((IntKind.u64.wrap x).tmod (P:Int))=(p:Int):=by
 have h0:0≤IntKind.u64.wrap x:=by rw [IntKind.wrap_u64]; omega
 rw [Int.tmod_eq_emod_of_nonneg h0]
 have h2:=Int.emod_nonneg (IntKind.u64.wrap x) (show (P:Int) ≠ 0 by omega)
 have h3:=Int.emod_lt_of_pos (IntKind.u64.wrap x) (show (0:Int) < P by omega)
 refine ⟨(IntKind.u64.wrap x % (P:Int)).toNat,by omega,?_,?_⟩
 ·rw [IntWalk.wrap64_in _ (by omega)]; omega
 ·rw [IntWalk.i64_in _ (by omega)]; omega
theorem stepF_t (F:FcS) (m:MemS) (a:FaS):(stepF F m a).1.t≤m.t + 1:=by
 have h0:(tickS m).t≤m.t + 1:=Int.le_refl _
 have h1:∀ k v,(putL (tickS m) k v).t≤m.t + 1:=fun _ _ => Int.le_refl _
 have h2:∀ k v,(putC (tickS m) k v).t≤m.t + 1:=fun _ _ => Int.le_refl _
 unfold stepF
 split
 ·unfold tryF
  split
  ·exact h0
  ·split <;> exact h0
 split
 ·unfold takF
  split
  ·exact h1 _ _
  ·exact h0
 split
 ·exact h0
 split
 ·exact h2 _ _
 split
 ·unfold freF
  show MemS.t (if _ then _ else _)≤_
  split
  ·exact h1 _ _
  ·exact h0
 ·show m.t≤m.t + 1
  omega
section
variable {F:FcS} {P:Nat} {ls:Nat→List OpN} {s s':RunS} {p:Nat} {z:Bool} {g:Nat→Nat→Pl}
theorem StepR.t (h:StepR F P ls s p z s'):s'.m.t≤s.m.t + 1:=by
 rcases h with ⟨_,e,_,_⟩ | ⟨_,s1,i,lg,h1,_,e⟩
 ·rw [e]; omega
 ·have h2:s1.m=s.m:=by
   rcases h1 with ⟨e1,_⟩ | ⟨o,_,_,e1,_⟩
   ·rw [e1]
   ·rw [e1]; rfl
  rw [e,← h2]
  exact stepF_t F s1.m (s1.A i)
theorem run_turn {W w w':World} {lo rb L:Nat} (h:Tch (RunD lo rb L) w w') (hb:Below W.heap.size W w) (h1:W.heap.size≤lo) (h2:W.heap.size≤rb) (h3:W.heap.size≤L):Below W.heap.size W w' :=
 h.below hb (fun y hy => by unfold RunD at hy; omega) hb.size
end
end
section
open Go.RowKit
structure IdleR (s s':RunS):Prop where
 A:s'.A=s.A
 at_:s'.at_=s.at_
 nw:s'.nw=s.nw
 h:s'.m.h=s.m.h
theorem IdleR.rfl_ (s:RunS):IdleR s s:=⟨rfl,rfl,rfl,rfl⟩
theorem IdleR.trans {a b c:RunS} (h:IdleR a b) (k:IdleR b c):IdleR a c:=⟨k.A.trans h.A,k.at_.trans h.at_,k.nw.trans h.nw,k.h.trans h.h⟩
def StuckR (ls:Nat→List OpN) (s:RunS) (p:Nat):Prop:=(s.nw p=-1∧s.at_ p=(ls p).length) ∨ ∃ i:Nat,s.nw p=(i:Int)∧Blocked s.m (s.A i)
section
variable {F:FcS} {C L P:Nat} {ls:Nat→List OpN} {s s' s0:RunS} {g:Nat→Nat→Pl} {Q:Nat→Bool} {p:Nat} {z:Bool}
theorem IdleR.mu (h:IdleR s s'):muR F P ls Q s'=muR F P ls Q s:=by
 unfold muR muO
 rw [h.A,h.at_,h.nw]
theorem IdleR.stuck (h:IdleR s s') (hs:StuckR ls s' p):StuckR ls s p:=by
 unfold StuckR at *
 unfold Blocked at *
 rw [h.A,h.at_,h.nw,h.h] at hs
 exact hs
theorem go_idle {i:Nat} (h:RunK F P ls s g) (hi:i < s.N) (hp:p < P) (hnw:s.nw p=(i:Int)) (hb:Blocked s.m (s.A i)) (lg:List Nat):IdleR s (goR F s p i lg):=by
 have e:=blocked_step (F:=F) hb
 have hst:(s.A i).st=2:=hb.1
 refine ⟨?_,rfl,?_,?_⟩
 ·show updA s.A i (stepF F s.m (s.A i)).2=s.A
  rw [e]
  funext j
  unfold updA
  split
  ·rename_i h9; rw [h9]
  ·rfl
 ·show (if (stepF F s.m (s.A i)).2.st=0 then updI s.nw p (-1) else s.nw)=s.nw
  rw [e,if_neg (by show ¬ (s.A i).st=0; omega)]
 ·show (stepF F s.m (s.A i)).1.h=s.m.h
  rw [e]
  rfl
theorem step_less (h:RunK F P ls s g) (hf:FFit F C L) (hp:p < P) (hQ:Q p=true) (hr:StepR F P ls s p z s'):muR F P ls Q s' < muR F P ls Q s ∨ (IdleR s s'∧StuckR ls s p):=by
 rcases hr with ⟨_,e,h1,h2⟩ | ⟨_,s1,i,lg,h1,hi,e⟩
 ·rw [e]
  exact .inr ⟨IdleR.rfl_ s,.inl ⟨h1,h2⟩⟩
 ·rcases h1 with ⟨e1,hnw⟩ | ⟨o,ho,hok,e1,ei,hnw,hat⟩
  ·subst e1
   by_cases hb:Blocked s1.m (s1.A i)
   ·rw [e]
    exact .inr ⟨go_idle h hi hp hnw hb lg,.inr ⟨i,hnw,hb⟩⟩
   ·rw [e]
    exact .inl (h.go_mu hp hi hnw lg hb hQ)
  ·left
   have hk1:RunK F P ls s1 g:=by rw [e1]; exact h.beg hf hp hnw hat hok
   have hm1:muR F P ls Q s1 < muR F P ls Q s:=by rw [e1]; exact h.beg_mu hf hp hnw hat hok hQ
   have hnw1:s1.nw p=(i:Int):=by rw [e1,ei]; exact if_pos rfl
   rw [e]
   by_cases hb:Blocked s1.m (s1.A i)
   ·rw [(go_idle hk1 hi hp hnw1 hb lg).mu]
    exact hm1
   ·exact Nat.lt_trans (hk1.go_mu hp hi hnw1 lg hb hQ) hm1
def RoundR (F:FcS) (P:Nat) (ls:Nat→List OpN) (Q:Nat→Bool) (s0:RunS) (j:Nat) (s:RunS):Prop :=
 muR F P ls Q s < muR F P ls Q s0 ∨ (IdleR s0 s∧∀ p,p < j→Q p=true→StuckR ls s0 p)
theorem RoundR.start (s:RunS):RoundR F P ls Q s 0 s:=.inr ⟨IdleR.rfl_ s,fun p hp => absurd hp (by omega)⟩
theorem RoundR.step {j:Nat} (h:RoundR F P ls Q s0 j s) (hk:RunK F P ls s g) (hf:FFit F C L) (hj:j < P) (hQ:Q j=true) (hr:StepR F P ls s j z s'):RoundR F P ls Q s0 (j + 1) s':=by
 have h9:=step_less hk hf hj hQ hr
 rcases h with h | ⟨h1,h2⟩
 ·left
  rcases h9 with h9 | ⟨h9,_⟩
  ·omega
  ·rw [h9.mu]; exact h
 ·rcases h9 with h9 | ⟨h9,h8⟩
  ·left
   rw [h1.mu] at h9
   exact h9
  ·refine .inr ⟨h1.trans h9,fun p hp hq => ?_⟩
   by_cases e:p=j
   ·rw [e]; exact h1.stuck h8
   ·exact h2 p (by omega) hq
theorem RoundR.done (h:RoundR F P ls Q s0 P s) (hk:RunK F P ls s0 g) (hQ:∀ p,p < P→Q p=false→∀ i:Nat,s0.nw p=(i:Int)→(s0.A i).held=0) :
  muR F P ls Q s < muR F P ls Q s0 ∨ ∀ p,p < P→Q p=true→s0.nw p=-1∧s0.at_ p=(ls p).length:=by
 rcases h with h | ⟨_,h2⟩
 ·exact .inl h
 ·exact .inr (hk.dead hQ fun p hp hq => h2 p hp hq)
theorem leftR_zero (h:∀ p,p < P→s.nw p=-1∧s.at_ p=(ls p).length):leftR P ls s=0:=by
 have key:∀ k,k≤P→sumN (leftO ls s) k=0:=fun k => by
  induction k with
  | zero => exact fun _ => rfl
  | succ k ih =>
   intro hk
   obtain ⟨h1,h2⟩:=h k (by omega)
   rw [sumN,ih (by omega)]
   unfold leftO
   rw [if_pos h1,h2]
   omega
 exact key P (Nat.le_refl P)
theorem leftR_all (hk:RunK F P ls s g) (h:leftR P ls s=0):∀ p,p < P→s.nw p=-1∧s.at_ p=(ls p).length:=by
 have key:∀ k,k≤P→sumN (leftO ls s) k=0→∀ p,p < k→leftO ls s p=0:=fun k => by
  induction k with
  | zero => exact fun _ _ p hp => absurd hp (by omega)
  | succ k ih =>
   intro hk h0 p hp
   rw [sumN] at h0
   by_cases e:p=k
   ·rw [e]; omega
   ·exact ih (by omega) (by omega) p (by omega)
 intro p hp
 have h0:=key P (Nat.le_refl P) h p hp
 have hat:=hk.at_ p hp
 unfold leftO at h0
 by_cases e:s.nw p=-1
 ·rw [if_pos e] at h0
  exact ⟨e,by omega⟩
 ·rw [if_neg e] at h0
  omega
theorem leftR_le (hl:∀ p,p < P→(ls p).length≤12∧∀ o ∈ ls p,OpOk F o):leftR P ls s≤P * 13:=by
 refine sumN_le P fun p hp => ?_
 have:=(hl p hp).1
 unfold leftO
 split <;> omega
theorem muR_zero (hk:RunK F P ls s g) (h:muR F P ls Q s=0):∀ p,p < P→Q p=true→s.nw p=-1∧s.at_ p=(ls p).length:=by
 have key:∀ k,k≤P→sumN (fun p => if Q p=true then muO F ls s p else 0) k=0→∀ p,p < k→(if Q p=true then muO F ls s p else 0)=0:=fun k => by
  induction k with
  | zero => exact fun _ _ p hp => absurd hp (by omega)
  | succ k ih =>
   intro hk h0 p hp
   rw [sumN] at h0
   by_cases e:p=k
   ·rw [e]; omega
   ·exact ih (by omega) (by omega) p (by omega)
 intro p hp hq
 have h0:=key P (Nat.le_refl P) h p hp
 rw [if_pos hq] at h0
 unfold muO at h0
 have hat:=hk.at_ p hp
 have hb:0 < boundF F:=by unfold boundF; omega
 have h1:((ls p).length - s.at_ p) * boundF F=0:=by omega
 rcases Nat.mul_eq_zero.1 h1 with h2 | h2
 ·refine ⟨?_,by omega⟩
  rcases hk.nw p hp with e | ⟨i,hi,e,hst,_⟩
  ·exact e
  ·exfalso
   rw [if_neg (by omega),e,Int.toNat_natCast] at h0
   have:=mu_pos hk.run.inv hi hst
   omega
 ·omega
theorem over_all (hk:RunK F P ls s g) (h:∀ p,p < P→s.nw p=-1∧s.at_ p=(ls p).length):∀ i,i < s.N→(s.A i).st=0:=by
 intro i hi
 rcases Nat.decEq (s.A i).st 0 with h0 | h0
 ·obtain ⟨p,hp,_,h2⟩:=hk.act i hi h0
  have:=(h p hp).1
  omega
 ·exact h0
theorem bound_le (hf:FFit F C L):boundF F≤10000:=by
 have hS:=hf.S
 have hB:=hf.B
 have hn:=hf.n
 have ht:=hf.tr
 unfold boundF
 have h1:F.tr * (4 + 4 * F.n)≤8 * 36:=Nat.mul_le_mul ht.2 (by omega)
 have h2:F.B * (8 + 8 * F.n)≤16 * 72:=Nat.mul_le_mul hB.2 (by omega)
 have h3:F.S * (4 + F.B * (8 + 8 * F.n))≤8 * (4 + 16 * 72):=Nat.mul_le_mul hS.2 (by omega)
 omega
end
end
section
open Go.RowKit
section
variable {w:World}
end
end
section
open Go.RowKit
end
end Go.Proofs.Ythloabdfkakehaa
