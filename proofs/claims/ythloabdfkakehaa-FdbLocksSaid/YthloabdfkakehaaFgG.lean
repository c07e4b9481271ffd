/-
  Words and contracts that a statement's proof rests on (FgG). No statement is proved here.
-/
import Derived.Test.YthloabdfkakehaaKeyC
import Derived.Test.YthloabdfkakehaaFgD
import Derived.Test.YthloabdfkakehaaFgF
set_option linter.unusedVariables false
set_option linter.unusedSimpArgs false
namespace Go.Proofs.Ythloabdfkakehaa
open Go.RowKit
theorem mod_nat (x:Int) (S:Nat) (hS:1≤S∧S≤1000):∃ P:Nat,P < S∧wrap64 ((IntKind.u64.wrap x).tmod (S:Int))=(P:Int)∧IntKind.i64.wrap ((IntKind.u64.wrap x).tmod (S:Int))=(P:Int):=by
 have h1:0≤IntKind.u64.wrap x:=by rw [IntKind.wrap_u64]; omega
 rw [Int.tmod_eq_emod_of_nonneg h1]
 have a1:=Int.emod_nonneg (IntKind.u64.wrap x) (show (S:Int) ≠ 0 by omega)
 have a2:=Int.emod_lt_of_pos (IntKind.u64.wrap x) (show 0 < (S:Int) by omega)
 generalize IntKind.u64.wrap x % (S:Int)=y at *
 refine ⟨y.toNat,by omega,?_,?_⟩
 ·rw [IntWalk.wrap64_in _ (by omega)]; omega
 ·rw [IntWalk.i64_in _ (by omega)]; omega
section
variable {w:World} {F:FcS} {C L:Nat}
def FixedOp (F:FcS) (w:World) (e:Ending) (w':World):Prop:=∃ o:OpN,e=.returned (opV7 o)∧OpOk F o∧Below w.heap.size w w'
set_option maxRecDepth 20000 in
set_option maxHeartbeats 6400000 in
theorem law12_Fix (hf:FFit F C L) (kd kv:Int) (mc:Nat) (hmc:mc < 18446744073709551616) (port vid:Int) (now old:Nat) (hnow:now < 4294967296) (hold:old < 4294967296) :
  Calls Try.prog 73 #[.agg #[.int .i64 kd,.int .i64 kv,.int .u64 (mc:Nat),.int .i64 port,.int .i64 vid,.int .u32 (now:Nat),.int .u32 (old:Nat)],.agg #[.int .i64 (F.S:Nat),.int .i64 (F.B:Nat),.int .i64 (F.n:Nat)]] w (FixedOp F w):=by
 obtain ⟨K,hK,hk1,hk2⟩:=kind7 kd
 obtain ⟨P,hP,hp1,hp2⟩:=port64K port
 obtain ⟨S9,hS9,hs1,hs2⟩:=mod_nat port F.S (by have:=hf.S; omega)
 obtain ⟨B9,hB9,hb1,hb2⟩:=mod_nat vid F.B (by have:=hf.B; omega)
 have HFX:=Lib.hid fun W => ref8_Fix kv mc hmc W
 have hr:=fix_right kv mc
 have hml:=fixM_lt mc
 generalize fixV kv=v at *
 generalize fixM mc=q at *
 have hS:=hf.S
 have hB:=hf.B
 have u1:IntKind.u64.wrap (F.S:Int)=(F.S:Int):=by rw [IntKind.wrap_u64]; omega
 have u2:IntKind.u64.wrap (F.B:Int)=(F.B:Int):=by rw [IntKind.wrap_u64]; omega
 have HOK:=Lib.hid fun (po vi:Int) (h1:1≤K→K≤3→po=(P:Int)) (h5:K=5→po=(S9:Int)∧vi=(B9:Int)) => show OpOk F ⟨K,v,q,po,vi,now,old⟩ from
  ⟨hK,hr,by show q < _; omega,fun h2 h3 => by have:=h1 h2 h3; show 0≤po∧po < 64; omega,fun h => by obtain ⟨e1,e2⟩:=h5 h; show (0≤po∧po < (F.S:Int))∧0≤vi∧vi < (F.B:Int); omega,hnow,hold⟩
 have z1:¬ F.S=0:=by omega
 have z2:¬ F.B=0:=by omega
 obtain ⟨ba,lk,S,B,n,tr⟩:=F
 dsimp only at *
 clear hmc hnow hold hP hS9 hB9 hr hml hf hS hB
 rcases (show K=0 ∨ K=1 ∨ K=2 ∨ K=3 ∨ K=4 ∨ K=5 ∨ K=6 by omega) with rfl | rfl | rfl | rfl | rfl | rfl | rfl
 ·rw [show ((0:Nat):Int)=0 from rfl] at hk1 hk2
  clear hK
  go_enter Try.func73,Try.ntmps73
  go_wp2_with fail
  refine (HFX.out _).mono ?_
  rintro e w1 ⟨rfl,hb⟩
  have HB1:Hid (Below w.heap.size w w1):=Below.trans (by (repeat' (first | (with_reducible exact Below.refl _ _) | (with_reducible refine Below.setCell ?_ ?_ _) | (with_reducible refine Below.alloc ?_ ?_ _) | go_size))) (hb.mono (by go_size))
  have hz1:w.heap.size + 3≤w1.heap.size:=by have:=hb.size; simpa using this
  have c0:w1.cell? ⟨w.heap.size,0,none⟩=some (.int .i64 0):=(hb.cell (p:=⟨w.heap.size,0,none⟩) (by go_size)).trans (by simp [go_sem])
  have c1:w1.cell? ⟨w.heap.size,1,none⟩=some (.int .i64 kv):=(hb.cell (p:=⟨w.heap.size,1,none⟩) (by go_size)).trans (by simp [go_sem])
  have c2:w1.cell? ⟨w.heap.size,2,none⟩=some (.int .u64 (mc:Nat)):=(hb.cell (p:=⟨w.heap.size,2,none⟩) (by go_size)).trans (by simp [go_sem])
  have c3:w1.cell? ⟨w.heap.size,3,none⟩=some (.int .i64 port):=(hb.cell (p:=⟨w.heap.size,3,none⟩) (by go_size)).trans (by simp [go_sem])
  have c4:w1.cell? ⟨w.heap.size,4,none⟩=some (.int .i64 vid):=(hb.cell (p:=⟨w.heap.size,4,none⟩) (by go_size)).trans (by simp [go_sem])
  have c5:w1.cell? ⟨w.heap.size,5,none⟩=some (.int .u32 (now:Nat)):=(hb.cell (p:=⟨w.heap.size,5,none⟩) (by go_size)).trans (by simp [go_sem])
  have c6:w1.cell? ⟨w.heap.size,6,none⟩=some (.int .u32 (old:Nat)):=(hb.cell (p:=⟨w.heap.size,6,none⟩) (by go_size)).trans (by simp [go_sem])
  have e0:w1.cell? ⟨w.heap.size + 1,0,none⟩=some (.int .i64 (S:Nat)):=(hb.cell (p:=⟨w.heap.size + 1,0,none⟩) (by go_size)).trans (by simp [go_sem])
  have e1:w1.cell? ⟨w.heap.size + 1,1,none⟩=some (.int .i64 (B:Nat)):=(hb.cell (p:=⟨w.heap.size + 1,1,none⟩) (by go_size)).trans (by simp [go_sem])
  have f0:∀ o,w1.frozen? ⟨w.heap.size,o,none⟩=false:=fun o => (hb.frozen (p:=⟨w.heap.size,o,none⟩) (by go_size)).trans (by simp [go_sem])
  have r0:w1.cell? ⟨w.heap.size + 1 + 1,0,none⟩=some (.int .i64 0):=(hb.cell (p:=⟨w.heap.size + 1 + 1,0,none⟩) (by go_size)).trans (by simp [go_sem])
  have r1:w1.cell? ⟨w.heap.size + 1 + 1,1,none⟩=some (.int .i64 0):=(hb.cell (p:=⟨w.heap.size + 1 + 1,1,none⟩) (by go_size)).trans (by simp [go_sem])
  have r2:w1.cell? ⟨w.heap.size + 1 + 1,2,none⟩=some (.int .u64 0):=(hb.cell (p:=⟨w.heap.size + 1 + 1,2,none⟩) (by go_size)).trans (by simp [go_sem])
  have r3:w1.cell? ⟨w.heap.size + 1 + 1,3,none⟩=some (.int .i64 0):=(hb.cell (p:=⟨w.heap.size + 1 + 1,3,none⟩) (by go_size)).trans (by simp [go_sem])
  have r4:w1.cell? ⟨w.heap.size + 1 + 1,4,none⟩=some (.int .i64 0):=(hb.cell (p:=⟨w.heap.size + 1 + 1,4,none⟩) (by go_size)).trans (by simp [go_sem])
  have r5:w1.cell? ⟨w.heap.size + 1 + 1,5,none⟩=some (.int .u32 0):=(hb.cell (p:=⟨w.heap.size + 1 + 1,5,none⟩) (by go_size)).trans (by simp [go_sem])
  have r6:w1.cell? ⟨w.heap.size + 1 + 1,6,none⟩=some (.int .u32 0):=(hb.cell (p:=⟨w.heap.size + 1 + 1,6,none⟩) (by go_size)).trans (by simp [go_sem])
  have f2:∀ o,w1.frozen? ⟨w.heap.size + 1 + 1,o,none⟩=false:=fun o => (hb.frozen (p:=⟨w.heap.size + 1 + 1,o,none⟩) (by go_size)).trans (by simp [go_sem])
  clear hb
  go_wp2
  exact bodyPost_ret (v:=opV7 ⟨0,v,q,port,vid,now,old⟩) (by simp [results,Try.results73,go_sem,opV7,r0,r1,r2,r3,r4,r5,r6]) rfl ⟨⟨0,v,q,port,vid,now,old⟩,rfl,HOK.out _ _ (by first | (intros; rfl) | (intros; omega)) (by first | (intros; exact ⟨rfl,rfl⟩) | (intros; omega)),(by (repeat' (first | (with_reducible exact HB1.out) | (with_reducible refine Below.setCell ?_ ?_ _) | (with_reducible refine Below.alloc ?_ ?_ _) | (with_reducible refine Below.drew ?_) | go_size)))⟩
 ·rw [show ((1:Nat):Int)=1 from rfl] at hk1 hk2
  clear hK
  go_enter Try.func73,Try.ntmps73
  go_wp2_with fail
  refine (HFX.out _).mono ?_
  rintro e w1 ⟨rfl,hb⟩
  have HB1:Hid (Below w.heap.size w w1):=Below.trans (by (repeat' (first | (with_reducible exact Below.refl _ _) | (with_reducible refine Below.setCell ?_ ?_ _) | (with_reducible refine Below.alloc ?_ ?_ _) | go_size))) (hb.mono (by go_size))
  have hz1:w.heap.size + 3≤w1.heap.size:=by have:=hb.size; simpa using this
  have c0:w1.cell? ⟨w.heap.size,0,none⟩=some (.int .i64 1):=(hb.cell (p:=⟨w.heap.size,0,none⟩) (by go_size)).trans (by simp [go_sem])
  have c1:w1.cell? ⟨w.heap.size,1,none⟩=some (.int .i64 kv):=(hb.cell (p:=⟨w.heap.size,1,none⟩) (by go_size)).trans (by simp [go_sem])
  have c2:w1.cell? ⟨w.heap.size,2,none⟩=some (.int .u64 (mc:Nat)):=(hb.cell (p:=⟨w.heap.size,2,none⟩) (by go_size)).trans (by simp [go_sem])
  have c3:w1.cell? ⟨w.heap.size,3,none⟩=some (.int .i64 port):=(hb.cell (p:=⟨w.heap.size,3,none⟩) (by go_size)).trans (by simp [go_sem])
  have c4:w1.cell? ⟨w.heap.size,4,none⟩=some (.int .i64 vid):=(hb.cell (p:=⟨w.heap.size,4,none⟩) (by go_size)).trans (by simp [go_sem])
  have c5:w1.cell? ⟨w.heap.size,5,none⟩=some (.int .u32 (now:Nat)):=(hb.cell (p:=⟨w.heap.size,5,none⟩) (by go_size)).trans (by simp [go_sem])
  have c6:w1.cell? ⟨w.heap.size,6,none⟩=some (.int .u32 (old:Nat)):=(hb.cell (p:=⟨w.heap.size,6,none⟩) (by go_size)).trans (by simp [go_sem])
  have e0:w1.cell? ⟨w.heap.size + 1,0,none⟩=some (.int .i64 (S:Nat)):=(hb.cell (p:=⟨w.heap.size + 1,0,none⟩) (by go_size)).trans (by simp [go_sem])
  have e1:w1.cell? ⟨w.heap.size + 1,1,none⟩=some (.int .i64 (B:Nat)):=(hb.cell (p:=⟨w.heap.size + 1,1,none⟩) (by go_size)).trans (by simp [go_sem])
  have f0:∀ o,w1.frozen? ⟨w.heap.size,o,none⟩=false:=fun o => (hb.frozen (p:=⟨w.heap.size,o,none⟩) (by go_size)).trans (by simp [go_sem])
  have r0:w1.cell? ⟨w.heap.size + 1 + 1,0,none⟩=some (.int .i64 0):=(hb.cell (p:=⟨w.heap.size + 1 + 1,0,none⟩) (by go_size)).trans (by simp [go_sem])
  have r1:w1.cell? ⟨w.heap.size + 1 + 1,1,none⟩=some (.int .i64 0):=(hb.cell (p:=⟨w.heap.size + 1 + 1,1,none⟩) (by go_size)).trans (by simp [go_sem])
  have r2:w1.cell? ⟨w.heap.size + 1 + 1,2,none⟩=some (.int .u64 0):=(hb.cell (p:=⟨w.heap.size + 1 + 1,2,none⟩) (by go_size)).trans (by simp [go_sem])
  have r3:w1.cell? ⟨w.heap.size + 1 + 1,3,none⟩=some (.int .i64 0):=(hb.cell (p:=⟨w.heap.size + 1 + 1,3,none⟩) (by go_size)).trans (by simp [go_sem])
  have r4:w1.cell? ⟨w.heap.size + 1 + 1,4,none⟩=some (.int .i64 0):=(hb.cell (p:=⟨w.heap.size + 1 + 1,4,none⟩) (by go_size)).trans (by simp [go_sem])
  have r5:w1.cell? ⟨w.heap.size + 1 + 1,5,none⟩=some (.int .u32 0):=(hb.cell (p:=⟨w.heap.size + 1 + 1,5,none⟩) (by go_size)).trans (by simp [go_sem])
  have r6:w1.cell? ⟨w.heap.size + 1 + 1,6,none⟩=some (.int .u32 0):=(hb.cell (p:=⟨w.heap.size + 1 + 1,6,none⟩) (by go_size)).trans (by simp [go_sem])
  have f2:∀ o,w1.frozen? ⟨w.heap.size + 1 + 1,o,none⟩=false:=fun o => (hb.frozen (p:=⟨w.heap.size + 1 + 1,o,none⟩) (by go_size)).trans (by simp [go_sem])
  clear hb
  go_wp2
  exact bodyPost_ret (v:=opV7 ⟨1,v,q,(P:Int),vid,now,old⟩) (by simp [results,Try.results73,go_sem,opV7,r0,r1,r2,r3,r4,r5,r6]) rfl ⟨⟨1,v,q,(P:Int),vid,now,old⟩,rfl,HOK.out _ _ (by first | (intros; rfl) | (intros; omega)) (by first | (intros; exact ⟨rfl,rfl⟩) | (intros; omega)),(by (repeat' (first | (with_reducible exact HB1.out) | (with_reducible refine Below.setCell ?_ ?_ _) | (with_reducible refine Below.alloc ?_ ?_ _) | (with_reducible refine Below.drew ?_) | go_size)))⟩
 ·rw [show ((2:Nat):Int)=2 from rfl] at hk1 hk2
  clear hK
  go_enter Try.func73,Try.ntmps73
  go_wp2_with fail
  refine (HFX.out _).mono ?_
  rintro e w1 ⟨rfl,hb⟩
  have HB1:Hid (Below w.heap.size w w1):=Below.trans (by (repeat' (first | (with_reducible exact Below.refl _ _) | (with_reducible refine Below.setCell ?_ ?_ _) | (with_reducible refine Below.alloc ?_ ?_ _) | go_size))) (hb.mono (by go_size))
  have hz1:w.heap.size + 3≤w1.heap.size:=by have:=hb.size; simpa using this
  have c0:w1.cell? ⟨w.heap.size,0,none⟩=some (.int .i64 2):=(hb.cell (p:=⟨w.heap.size,0,none⟩) (by go_size)).trans (by simp [go_sem])
  have c1:w1.cell? ⟨w.heap.size,1,none⟩=some (.int .i64 kv):=(hb.cell (p:=⟨w.heap.size,1,none⟩) (by go_size)).trans (by simp [go_sem])
  have c2:w1.cell? ⟨w.heap.size,2,none⟩=some (.int .u64 (mc:Nat)):=(hb.cell (p:=⟨w.heap.size,2,none⟩) (by go_size)).trans (by simp [go_sem])
  have c3:w1.cell? ⟨w.heap.size,3,none⟩=some (.int .i64 port):=(hb.cell (p:=⟨w.heap.size,3,none⟩) (by go_size)).trans (by simp [go_sem])
  have c4:w1.cell? ⟨w.heap.size,4,none⟩=some (.int .i64 vid):=(hb.cell (p:=⟨w.heap.size,4,none⟩) (by go_size)).trans (by simp [go_sem])
  have c5:w1.cell? ⟨w.heap.size,5,none⟩=some (.int .u32 (now:Nat)):=(hb.cell (p:=⟨w.heap.size,5,none⟩) (by go_size)).trans (by simp [go_sem])
  have c6:w1.cell? ⟨w.heap.size,6,none⟩=some (.int .u32 (old:Nat)):=(hb.cell (p:=⟨w.heap.size,6,none⟩) (by go_size)).trans (by simp [go_sem])
  have e0:w1.cell? ⟨w.heap.size + 1,0,none⟩=some (.int .i64 (S:Nat)):=(hb.cell (p:=⟨w.heap.size + 1,0,none⟩) (by go_size)).trans (by simp [go_sem])
  have e1:w1.cell? ⟨w.heap.size + 1,1,none⟩=some (.int .i64 (B:Nat)):=(hb.cell (p:=⟨w.heap.size + 1,1,none⟩) (by go_size)).trans (by simp [go_sem])
  have f0:∀ o,w1.frozen? ⟨w.heap.size,o,none⟩=false:=fun o => (hb.frozen (p:=⟨w.heap.size,o,none⟩) (by go_size)).trans (by simp [go_sem])
  have r0:w1.cell? ⟨w.heap.size + 1 + 1,0,none⟩=some (.int .i64 0):=(hb.cell (p:=⟨w.heap.size + 1 + 1,0,none⟩) (by go_size)).trans (by simp [go_sem])
  have r1:w1.cell? ⟨w.heap.size + 1 + 1,1,none⟩=some (.int .i64 0):=(hb.cell (p:=⟨w.heap.size + 1 + 1,1,none⟩) (by go_size)).trans (by simp [go_sem])
  have r2:w1.cell? ⟨w.heap.size + 1 + 1,2,none⟩=some (.int .u64 0):=(hb.cell (p:=⟨w.heap.size + 1 + 1,2,none⟩) (by go_size)).trans (by simp [go_sem])
  have r3:w1.cell? ⟨w.heap.size + 1 + 1,3,none⟩=some (.int .i64 0):=(hb.cell (p:=⟨w.heap.size + 1 + 1,3,none⟩) (by go_size)).trans (by simp [go_sem])
  have r4:w1.cell? ⟨w.heap.size + 1 + 1,4,none⟩=some (.int .i64 0):=(hb.cell (p:=⟨w.heap.size + 1 + 1,4,none⟩) (by go_size)).trans (by simp [go_sem])
  have r5:w1.cell? ⟨w.heap.size + 1 + 1,5,none⟩=some (.int .u32 0):=(hb.cell (p:=⟨w.heap.size + 1 + 1,5,none⟩) (by go_size)).trans (by simp [go_sem])
  have r6:w1.cell? ⟨w.heap.size + 1 + 1,6,none⟩=some (.int .u32 0):=(hb.cell (p:=⟨w.heap.size + 1 + 1,6,none⟩) (by go_size)).trans (by simp [go_sem])
  have f2:∀ o,w1.frozen? ⟨w.heap.size + 1 + 1,o,none⟩=false:=fun o => (hb.frozen (p:=⟨w.heap.size + 1 + 1,o,none⟩) (by go_size)).trans (by simp [go_sem])
  clear hb
  go_wp2
  exact bodyPost_ret (v:=opV7 ⟨2,v,q,(P:Int),vid,now,old⟩) (by simp [results,Try.results73,go_sem,opV7,r0,r1,r2,r3,r4,r5,r6]) rfl ⟨⟨2,v,q,(P:Int),vid,now,old⟩,rfl,HOK.out _ _ (by first | (intros; rfl) | (intros; omega)) (by first | (intros; exact ⟨rfl,rfl⟩) | (intros; omega)),(by (repeat' (first | (with_reducible exact HB1.out) | (with_reducible refine Below.setCell ?_ ?_ _) | (with_reducible refine Below.alloc ?_ ?_ _) | (with_reducible refine Below.drew ?_) | go_size)))⟩
 ·rw [show ((3:Nat):Int)=3 from rfl] at hk1 hk2
  clear hK
  go_enter Try.func73,Try.ntmps73
  go_wp2_with fail
  refine (HFX.out _).mono ?_
  rintro e w1 ⟨rfl,hb⟩
  have HB1:Hid (Below w.heap.size w w1):=Below.trans (by (repeat' (first | (with_reducible exact Below.refl _ _) | (with_reducible refine Below.setCell ?_ ?_ _) | (with_reducible refine Below.alloc ?_ ?_ _) | go_size))) (hb.mono (by go_size))
  have hz1:w.heap.size + 3≤w1.heap.size:=by have:=hb.size; simpa using this
  have c0:w1.cell? ⟨w.heap.size,0,none⟩=some (.int .i64 3):=(hb.cell (p:=⟨w.heap.size,0,none⟩) (by go_size)).trans (by simp [go_sem])
  have c1:w1.cell? ⟨w.heap.size,1,none⟩=some (.int .i64 kv):=(hb.cell (p:=⟨w.heap.size,1,none⟩) (by go_size)).trans (by simp [go_sem])
  have c2:w1.cell? ⟨w.heap.size,2,none⟩=some (.int .u64 (mc:Nat)):=(hb.cell (p:=⟨w.heap.size,2,none⟩) (by go_size)).trans (by simp [go_sem])
  have c3:w1.cell? ⟨w.heap.size,3,none⟩=some (.int .i64 port):=(hb.cell (p:=⟨w.heap.size,3,none⟩) (by go_size)).trans (by simp [go_sem])
  have c4:w1.cell? ⟨w.heap.size,4,none⟩=some (.int .i64 vid):=(hb.cell (p:=⟨w.heap.size,4,none⟩) (by go_size)).trans (by simp [go_sem])
  have c5:w1.cell? ⟨w.heap.size,5,none⟩=some (.int .u32 (now:Nat)):=(hb.cell (p:=⟨w.heap.size,5,none⟩) (by go_size)).trans (by simp [go_sem])
  have c6:w1.cell? ⟨w.heap.size,6,none⟩=some (.int .u32 (old:Nat)):=(hb.cell (p:=⟨w.heap.size,6,none⟩) (by go_size)).trans (by simp [go_sem])
  have e0:w1.cell? ⟨w.heap.size + 1,0,none⟩=some (.int .i64 (S:Nat)):=(hb.cell (p:=⟨w.heap.size + 1,0,none⟩) (by go_size)).trans (by simp [go_sem])
  have e1:w1.cell? ⟨w.heap.size + 1,1,none⟩=some (.int .i64 (B:Nat)):=(hb.cell (p:=⟨w.heap.size + 1,1,none⟩) (by go_size)).trans (by simp [go_sem])
  have f0:∀ o,w1.frozen? ⟨w.heap.size,o,none⟩=false:=fun o => (hb.frozen (p:=⟨w.heap.size,o,none⟩) (by go_size)).trans (by simp [go_sem])
  have r0:w1.cell? ⟨w.heap.size + 1 + 1,0,none⟩=some (.int .i64 0):=(hb.cell (p:=⟨w.heap.size + 1 + 1,0,none⟩) (by go_size)).trans (by simp [go_sem])
  have r1:w1.cell? ⟨w.heap.size + 1 + 1,1,none⟩=some (.int .i64 0):=(hb.cell (p:=⟨w.heap.size + 1 + 1,1,none⟩) (by go_size)).trans (by simp [go_sem])
  have r2:w1.cell? ⟨w.heap.size + 1 + 1,2,none⟩=some (.int .u64 0):=(hb.cell (p:=⟨w.heap.size + 1 + 1,2,none⟩) (by go_size)).trans (by simp [go_sem])
  have r3:w1.cell? ⟨w.heap.size + 1 + 1,3,none⟩=some (.int .i64 0):=(hb.cell (p:=⟨w.heap.size + 1 + 1,3,none⟩) (by go_size)).trans (by simp [go_sem])
  have r4:w1.cell? ⟨w.heap.size + 1 + 1,4,none⟩=some (.int .i64 0):=(hb.cell (p:=⟨w.heap.size + 1 + 1,4,none⟩) (by go_size)).trans (by simp [go_sem])
  have r5:w1.cell? ⟨w.heap.size + 1 + 1,5,none⟩=some (.int .u32 0):=(hb.cell (p:=⟨w.heap.size + 1 + 1,5,none⟩) (by go_size)).trans (by simp [go_sem])
  have r6:w1.cell? ⟨w.heap.size + 1 + 1,6,none⟩=some (.int .u32 0):=(hb.cell (p:=⟨w.heap.size + 1 + 1,6,none⟩) (by go_size)).trans (by simp [go_sem])
  have f2:∀ o,w1.frozen? ⟨w.heap.size + 1 + 1,o,none⟩=false:=fun o => (hb.frozen (p:=⟨w.heap.size + 1 + 1,o,none⟩) (by go_size)).trans (by simp [go_sem])
  clear hb
  go_wp2
  exact bodyPost_ret (v:=opV7 ⟨3,v,q,(P:Int),vid,now,old⟩) (by simp [results,Try.results73,go_sem,opV7,r0,r1,r2,r3,r4,r5,r6]) rfl ⟨⟨3,v,q,(P:Int),vid,now,old⟩,rfl,HOK.out _ _ (by first | (intros; rfl) | (intros; omega)) (by first | (intros; exact ⟨rfl,rfl⟩) | (intros; omega)),(by (repeat' (first | (with_reducible exact HB1.out) | (with_reducible refine Below.setCell ?_ ?_ _) | (with_reducible refine Below.alloc ?_ ?_ _) | (with_reducible refine Below.drew ?_) | go_size)))⟩
 ·rw [show ((4:Nat):Int)=4 from rfl] at hk1 hk2
  clear hK
  go_enter Try.func73,Try.ntmps73
  go_wp2_with fail
  refine (HFX.out _).mono ?_
  rintro e w1 ⟨rfl,hb⟩
  have HB1:Hid (Below w.heap.size w w1):=Below.trans (by (repeat' (first | (with_reducible exact Below.refl _ _) | (with_reducible refine Below.setCell ?_ ?_ _) | (with_reducible refine Below.alloc ?_ ?_ _) | go_size))) (hb.mono (by go_size))
  have hz1:w.heap.size + 3≤w1.heap.size:=by have:=hb.size; simpa using this
  have c0:w1.cell? ⟨w.heap.size,0,none⟩=some (.int .i64 4):=(hb.cell (p:=⟨w.heap.size,0,none⟩) (by go_size)).trans (by simp [go_sem])
  have c1:w1.cell? ⟨w.heap.size,1,none⟩=some (.int .i64 kv):=(hb.cell (p:=⟨w.heap.size,1,none⟩) (by go_size)).trans (by simp [go_sem])
  have c2:w1.cell? ⟨w.heap.size,2,none⟩=some (.int .u64 (mc:Nat)):=(hb.cell (p:=⟨w.heap.size,2,none⟩) (by go_size)).trans (by simp [go_sem])
  have c3:w1.cell? ⟨w.heap.size,3,none⟩=some (.int .i64 port):=(hb.cell (p:=⟨w.heap.size,3,none⟩) (by go_size)).trans (by simp [go_sem])
  have c4:w1.cell? ⟨w.heap.size,4,none⟩=some (.int .i64 vid):=(hb.cell (p:=⟨w.heap.size,4,none⟩) (by go_size)).trans (by simp [go_sem])
  have c5:w1.cell? ⟨w.heap.size,5,none⟩=some (.int .u32 (now:Nat)):=(hb.cell (p:=⟨w.heap.size,5,none⟩) (by go_size)).trans (by simp [go_sem])
  have c6:w1.cell? ⟨w.heap.size,6,none⟩=some (.int .u32 (old:Nat)):=(hb.cell (p:=⟨w.heap.size,6,none⟩) (by go_size)).trans (by simp [go_sem])
  have e0:w1.cell? ⟨w.heap.size + 1,0,none⟩=some (.int .i64 (S:Nat)):=(hb.cell (p:=⟨w.heap.size + 1,0,none⟩) (by go_size)).trans (by simp [go_sem])
  have e1:w1.cell? ⟨w.heap.size + 1,1,none⟩=some (.int .i64 (B:Nat)):=(hb.cell (p:=⟨w.heap.size + 1,1,none⟩) (by go_size)).trans (by simp [go_sem])
  have f0:∀ o,w1.frozen? ⟨w.heap.size,o,none⟩=false:=fun o => (hb.frozen (p:=⟨w.heap.size,o,none⟩) (by go_size)).trans (by simp [go_sem])
  have r0:w1.cell? ⟨w.heap.size + 1 + 1,0,none⟩=some (.int .i64 0):=(hb.cell (p:=⟨w.heap.size + 1 + 1,0,none⟩) (by go_size)).trans (by simp [go_sem])
  have r1:w1.cell? ⟨w.heap.size + 1 + 1,1,none⟩=some (.int .i64 0):=(hb.cell (p:=⟨w.heap.size + 1 + 1,1,none⟩) (by go_size)).trans (by simp [go_sem])
  have r2:w1.cell? ⟨w.heap.size + 1 + 1,2,none⟩=some (.int .u64 0):=(hb.cell (p:=⟨w.heap.size + 1 + 1,2,none⟩) (by go_size)).trans (by simp [go_sem])
  have r3:w1.cell? ⟨w.heap.size + 1 + 1,3,none⟩=some (.int .i64 0):=(hb.cell (p:=⟨w.heap.size + 1 + 1,3,none⟩) (by go_size)).trans (by simp [go_sem])
  have r4:w1.cell? ⟨w.heap.size + 1 + 1,4,none⟩=some (.int .i64 0):=(hb.cell (p:=⟨w.heap.size + 1 + 1,4,none⟩) (by go_size)).trans (by simp [go_sem])
  have r5:w1.cell? ⟨w.heap.size + 1 + 1,5,none⟩=some (.int .u32 0):=(hb.cell (p:=⟨w.heap.size + 1 + 1,5,none⟩) (by go_size)).trans (by simp [go_sem])
  have r6:w1.cell? ⟨w.heap.size + 1 + 1,6,none⟩=some (.int .u32 0):=(hb.cell (p:=⟨w.heap.size + 1 + 1,6,none⟩) (by go_size)).trans (by simp [go_sem])
  have f2:∀ o,w1.frozen? ⟨w.heap.size + 1 + 1,o,none⟩=false:=fun o => (hb.frozen (p:=⟨w.heap.size + 1 + 1,o,none⟩) (by go_size)).trans (by simp [go_sem])
  clear hb
  go_wp2
  exact bodyPost_ret (v:=opV7 ⟨4,v,q,port,vid,now,old⟩) (by simp [results,Try.results73,go_sem,opV7,r0,r1,r2,r3,r4,r5,r6]) rfl ⟨⟨4,v,q,port,vid,now,old⟩,rfl,HOK.out _ _ (by first | (intros; rfl) | (intros; omega)) (by first | (intros; exact ⟨rfl,rfl⟩) | (intros; omega)),(by (repeat' (first | (with_reducible exact HB1.out) | (with_reducible refine Below.setCell ?_ ?_ _) | (with_reducible refine Below.alloc ?_ ?_ _) | (with_reducible refine Below.drew ?_) | go_size)))⟩
 ·rw [show ((5:Nat):Int)=5 from rfl] at hk1 hk2
  clear hK
  go_enter Try.func73,Try.ntmps73
  go_wp2_with fail
  refine (HFX.out _).mono ?_
  rintro e w1 ⟨rfl,hb⟩
  have HB1:Hid (Below w.heap.size w w1):=Below.trans (by (repeat' (first | (with_reducible exact Below.refl _ _) | (with_reducible refine Below.setCell ?_ ?_ _) | (with_reducible refine Below.alloc ?_ ?_ _) | go_size))) (hb.mono (by go_size))
  have hz1:w.heap.size + 3≤w1.heap.size:=by have:=hb.size; simpa using this
  have c0:w1.cell? ⟨w.heap.size,0,none⟩=some (.int .i64 5):=(hb.cell (p:=⟨w.heap.size,0,none⟩) (by go_size)).trans (by simp [go_sem])
  have c1:w1.cell? ⟨w.heap.size,1,none⟩=some (.int .i64 kv):=(hb.cell (p:=⟨w.heap.size,1,none⟩) (by go_size)).trans (by simp [go_sem])
  have c2:w1.cell? ⟨w.heap.size,2,none⟩=some (.int .u64 (mc:Nat)):=(hb.cell (p:=⟨w.heap.size,2,none⟩) (by go_size)).trans (by simp [go_sem])
  have c3:w1.cell? ⟨w.heap.size,3,none⟩=some (.int .i64 port):=(hb.cell (p:=⟨w.heap.size,3,none⟩) (by go_size)).trans (by simp [go_sem])
  have c4:w1.cell? ⟨w.heap.size,4,none⟩=some (.int .i64 vid):=(hb.cell (p:=⟨w.heap.size,4,none⟩) (by go_size)).trans (by simp [go_sem])
  have c5:w1.cell? ⟨w.heap.size,5,none⟩=some (.int .u32 (now:Nat)):=(hb.cell (p:=⟨w.heap.size,5,none⟩) (by go_size)).trans (by simp [go_sem])
  have c6:w1.cell? ⟨w.heap.size,6,none⟩=some (.int .u32 (old:Nat)):=(hb.cell (p:=⟨w.heap.size,6,none⟩) (by go_size)).trans (by simp [go_sem])
  have e0:w1.cell? ⟨w.heap.size + 1,0,none⟩=some (.int .i64 (S:Nat)):=(hb.cell (p:=⟨w.heap.size + 1,0,none⟩) (by go_size)).trans (by simp [go_sem])
  have e1:w1.cell? ⟨w.heap.size + 1,1,none⟩=some (.int .i64 (B:Nat)):=(hb.cell (p:=⟨w.heap.size + 1,1,none⟩) (by go_size)).trans (by simp [go_sem])
  have f0:∀ o,w1.frozen? ⟨w.heap.size,o,none⟩=false:=fun o => (hb.frozen (p:=⟨w.heap.size,o,none⟩) (by go_size)).trans (by simp [go_sem])
  have r0:w1.cell? ⟨w.heap.size + 1 + 1,0,none⟩=some (.int .i64 0):=(hb.cell (p:=⟨w.heap.size + 1 + 1,0,none⟩) (by go_size)).trans (by simp [go_sem])
  have r1:w1.cell? ⟨w.heap.size + 1 + 1,1,none⟩=some (.int .i64 0):=(hb.cell (p:=⟨w.heap.size + 1 + 1,1,none⟩) (by go_size)).trans (by simp [go_sem])
  have r2:w1.cell? ⟨w.heap.size + 1 + 1,2,none⟩=some (.int .u64 0):=(hb.cell (p:=⟨w.heap.size + 1 + 1,2,none⟩) (by go_size)).trans (by simp [go_sem])
  have r3:w1.cell? ⟨w.heap.size + 1 + 1,3,none⟩=some (.int .i64 0):=(hb.cell (p:=⟨w.heap.size + 1 + 1,3,none⟩) (by go_size)).trans (by simp [go_sem])
  have r4:w1.cell? ⟨w.heap.size + 1 + 1,4,none⟩=some (.int .i64 0):=(hb.cell (p:=⟨w.heap.size + 1 + 1,4,none⟩) (by go_size)).trans (by simp [go_sem])
  have r5:w1.cell? ⟨w.heap.size + 1 + 1,5,none⟩=some (.int .u32 0):=(hb.cell (p:=⟨w.heap.size + 1 + 1,5,none⟩) (by go_size)).trans (by simp [go_sem])
  have r6:w1.cell? ⟨w.heap.size + 1 + 1,6,none⟩=some (.int .u32 0):=(hb.cell (p:=⟨w.heap.size + 1 + 1,6,none⟩) (by go_size)).trans (by simp [go_sem])
  have f2:∀ o,w1.frozen? ⟨w.heap.size + 1 + 1,o,none⟩=false:=fun o => (hb.frozen (p:=⟨w.heap.size + 1 + 1,o,none⟩) (by go_size)).trans (by simp [go_sem])
  clear hb
  go_wp2_with fail
  refine wp_region_held_drew (S:=fun w' => w'.cell? ⟨w.heap.size + 1,0,none⟩=some (.int .i64 (S:Nat))∧w'.cell? ⟨w.heap.size + 1,1,none⟩=some (.int .i64 (B:Nat))) (by kernel_rfl) ?_ (fun hHeld => ?_)
  ·exact ⟨by simp [go_sem,e0],by simp [go_sem,e1]⟩
  refine tkR 0 rfl ?_
  refine tkR 3 rfl ?_
  refine tkR 4 rfl ?_
  refine tkR 5 rfl ?_
  refine tkR 8 rfl ?_
  refine tkR 11 rfl ?_
  refine tkR 12 rfl ?_
  refine tkR 13 rfl ?_
  refine wpAnyH_ready (rs:=[1,9]) (by kernel_rfl) (by simp) ?_
  refine (acR rfl (fun K hK => ?_) (acR rfl (fun K hK => ?_) AllReadyH.nil))
  ·go_simp
   refine hK.out _ _ ?_ (fun hHeld => ?_)
   ·(try dsimp only)
    exact ⟨by simp [go_sem,e0],by simp [go_sem,e1]⟩
   clear hK K
   refine tkR 2 rfl ?_
   refine tkR 6 rfl ?_
   refine tkR 7 rfl ?_
   refine wpAnyH_ready (rs:=[9]) (by kernel_rfl) (by simp) ?_
   refine (acR rfl (fun K hK => ?_) AllReadyH.nil)
   go_simp
   refine hK.out _ _ ?_ (fun hHeld => ?_)
   ·(try dsimp only)
    exact ⟨by simp [go_sem,e0],by simp [go_sem,e1]⟩
   clear hK K
   refine tkR 10 rfl ?_
   refine tkR 14 rfl ?_
   refine tkR 15 rfl ?_
   refine tkR 16 rfl ?_
   refine wpAnyH_ready (rs:=[17]) (by kernel_rfl) (by simp) ?_
   refine (acR rfl (fun K hK => ?_) AllReadyH.nil)
   go_simp
   refine hK.out _ _ ?_ (fun hHeld => ?_)
   ·(try dsimp only)
    exact ⟨by simp [go_sem,e0],by simp [go_sem,e1]⟩
   clear hK K
   refine tkR 18 rfl ?_
   refine wpAnyH_ready (rs:=[19]) (by kernel_rfl) (by simp) ?_
   refine (acR rfl (fun K hK => ?_) AllReadyH.nil)
   go_simp
   refine hK.out _ _ ?_ (fun hHeld => ?_)
   ·(try dsimp only)
    exact ⟨by simp [go_sem,e0],by simp [go_sem,e1]⟩
   clear hK K
   (try simp only [Act.put,sqA,sqB,sqC])
   refine wpAnyH_done (by kernel_rfl) ?_ _
   clear hHeld
   go_wp2
   exact bodyPost_ret (v:=opV7 ⟨5,v,q,(S9:Int),(B9:Int),now,old⟩) (by simp [results,Try.results73,go_sem,opV7,r0,r1,r2,r3,r4,r5,r6]) rfl ⟨⟨5,v,q,(S9:Int),(B9:Int),now,old⟩,rfl,HOK.out _ _ (by first | (intros; rfl) | (intros; omega)) (by first | (intros; exact ⟨rfl,rfl⟩) | (intros; omega)),(by (repeat' (first | (with_reducible exact HB1.out) | (with_reducible refine Below.setCell ?_ ?_ _) | (with_reducible refine Below.alloc ?_ ?_ _) | (with_reducible refine Below.drew ?_) | go_size)))⟩
  ·go_simp
   refine hK.out _ _ ?_ (fun hHeld => ?_)
   ·(try dsimp only)
    exact ⟨by simp [go_sem,e0],by simp [go_sem,e1]⟩
   clear hK K
   refine tkR 10 rfl ?_
   refine tkR 14 rfl ?_
   refine tkR 15 rfl ?_
   refine wpAnyH_ready (rs:=[1]) (by kernel_rfl) (by simp) ?_
   refine (acR rfl (fun K hK => ?_) AllReadyH.nil)
   go_simp
   refine hK.out _ _ ?_ (fun hHeld => ?_)
   ·(try dsimp only)
    exact ⟨by simp [go_sem,e0],by simp [go_sem,e1]⟩
   clear hK K
   refine tkR 2 rfl ?_
   refine tkR 6 rfl ?_
   refine tkR 7 rfl ?_
   refine tkR 16 rfl ?_
   refine wpAnyH_ready (rs:=[17]) (by kernel_rfl) (by simp) ?_
   refine (acR rfl (fun K hK => ?_) AllReadyH.nil)
   go_simp
   refine hK.out _ _ ?_ (fun hHeld => ?_)
   ·(try dsimp only)
    exact ⟨by simp [go_sem,e0],by simp [go_sem,e1]⟩
   clear hK K
   refine tkR 18 rfl ?_
   refine wpAnyH_ready (rs:=[19]) (by kernel_rfl) (by simp) ?_
   refine (acR rfl (fun K hK => ?_) AllReadyH.nil)
   go_simp
   refine hK.out _ _ ?_ (fun hHeld => ?_)
   ·(try dsimp only)
    exact ⟨by simp [go_sem,e0],by simp [go_sem,e1]⟩
   clear hK K
   (try simp only [Act.put,sqA,sqB,sqC])
   refine wpAnyH_done (by kernel_rfl) ?_ _
   clear hHeld
   go_wp2
   exact bodyPost_ret (v:=opV7 ⟨5,v,q,(S9:Int),(B9:Int),now,old⟩) (by simp [results,Try.results73,go_sem,opV7,r0,r1,r2,r3,r4,r5,r6]) rfl ⟨⟨5,v,q,(S9:Int),(B9:Int),now,old⟩,rfl,HOK.out _ _ (by first | (intros; rfl) | (intros; omega)) (by first | (intros; exact ⟨rfl,rfl⟩) | (intros; omega)),(by (repeat' (first | (with_reducible exact HB1.out) | (with_reducible refine Below.setCell ?_ ?_ _) | (with_reducible refine Below.alloc ?_ ?_ _) | (with_reducible refine Below.drew ?_) | go_size)))⟩
 ·rw [show ((6:Nat):Int)=6 from rfl] at hk1 hk2
  clear hK
  go_enter Try.func73,Try.ntmps73
  go_wp2_with fail
  refine (HFX.out _).mono ?_
  rintro e w1 ⟨rfl,hb⟩
  have HB1:Hid (Below w.heap.size w w1):=Below.trans (by (repeat' (first | (with_reducible exact Below.refl _ _) | (with_reducible refine Below.setCell ?_ ?_ _) | (with_reducible refine Below.alloc ?_ ?_ _) | go_size))) (hb.mono (by go_size))
  have hz1:w.heap.size + 3≤w1.heap.size:=by have:=hb.size; simpa using this
  have c0:w1.cell? ⟨w.heap.size,0,none⟩=some (.int .i64 6):=(hb.cell (p:=⟨w.heap.size,0,none⟩) (by go_size)).trans (by simp [go_sem])
  have c1:w1.cell? ⟨w.heap.size,1,none⟩=some (.int .i64 kv):=(hb.cell (p:=⟨w.heap.size,1,none⟩) (by go_size)).trans (by simp [go_sem])
  have c2:w1.cell? ⟨w.heap.size,2,none⟩=some (.int .u64 (mc:Nat)):=(hb.cell (p:=⟨w.heap.size,2,none⟩) (by go_size)).trans (by simp [go_sem])
  have c3:w1.cell? ⟨w.heap.size,3,none⟩=some (.int .i64 port):=(hb.cell (p:=⟨w.heap.size,3,none⟩) (by go_size)).trans (by simp [go_sem])
  have c4:w1.cell? ⟨w.heap.size,4,none⟩=some (.int .i64 vid):=(hb.cell (p:=⟨w.heap.size,4,none⟩) (by go_size)).trans (by simp [go_sem])
  have c5:w1.cell? ⟨w.heap.size,5,none⟩=some (.int .u32 (now:Nat)):=(hb.cell (p:=⟨w.heap.size,5,none⟩) (by go_size)).trans (by simp [go_sem])
  have c6:w1.cell? ⟨w.heap.size,6,none⟩=some (.int .u32 (old:Nat)):=(hb.cell (p:=⟨w.heap.size,6,none⟩) (by go_size)).trans (by simp [go_sem])
  have e0:w1.cell? ⟨w.heap.size + 1,0,none⟩=some (.int .i64 (S:Nat)):=(hb.cell (p:=⟨w.heap.size + 1,0,none⟩) (by go_size)).trans (by simp [go_sem])
  have e1:w1.cell? ⟨w.heap.size + 1,1,none⟩=some (.int .i64 (B:Nat)):=(hb.cell (p:=⟨w.heap.size + 1,1,none⟩) (by go_size)).trans (by simp [go_sem])
  have f0:∀ o,w1.frozen? ⟨w.heap.size,o,none⟩=false:=fun o => (hb.frozen (p:=⟨w.heap.size,o,none⟩) (by go_size)).trans (by simp [go_sem])
  have r0:w1.cell? ⟨w.heap.size + 1 + 1,0,none⟩=some (.int .i64 0):=(hb.cell (p:=⟨w.heap.size + 1 + 1,0,none⟩) (by go_size)).trans (by simp [go_sem])
  have r1:w1.cell? ⟨w.heap.size + 1 + 1,1,none⟩=some (.int .i64 0):=(hb.cell (p:=⟨w.heap.size + 1 + 1,1,none⟩) (by go_size)).trans (by simp [go_sem])
  have r2:w1.cell? ⟨w.heap.size + 1 + 1,2,none⟩=some (.int .u64 0):=(hb.cell (p:=⟨w.heap.size + 1 + 1,2,none⟩) (by go_size)).trans (by simp [go_sem])
  have r3:w1.cell? ⟨w.heap.size + 1 + 1,3,none⟩=some (.int .i64 0):=(hb.cell (p:=⟨w.heap.size + 1 + 1,3,none⟩) (by go_size)).trans (by simp [go_sem])
  have r4:w1.cell? ⟨w.heap.size + 1 + 1,4,none⟩=some (.int .i64 0):=(hb.cell (p:=⟨w.heap.size + 1 + 1,4,none⟩) (by go_size)).trans (by simp [go_sem])
  have r5:w1.cell? ⟨w.heap.size + 1 + 1,5,none⟩=some (.int .u32 0):=(hb.cell (p:=⟨w.heap.size + 1 + 1,5,none⟩) (by go_size)).trans (by simp [go_sem])
  have r6:w1.cell? ⟨w.heap.size + 1 + 1,6,none⟩=some (.int .u32 0):=(hb.cell (p:=⟨w.heap.size + 1 + 1,6,none⟩) (by go_size)).trans (by simp [go_sem])
  have f2:∀ o,w1.frozen? ⟨w.heap.size + 1 + 1,o,none⟩=false:=fun o => (hb.frozen (p:=⟨w.heap.size + 1 + 1,o,none⟩) (by go_size)).trans (by simp [go_sem])
  clear hb
  go_wp2
  exact bodyPost_ret (v:=opV7 ⟨6,v,q,port,vid,now,old⟩) (by simp [results,Try.results73,go_sem,opV7,r0,r1,r2,r3,r4,r5,r6]) rfl ⟨⟨6,v,q,port,vid,now,old⟩,rfl,HOK.out _ _ (by first | (intros; rfl) | (intros; omega)) (by first | (intros; exact ⟨rfl,rfl⟩) | (intros; omega)),(by (repeat' (first | (with_reducible exact HB1.out) | (with_reducible refine Below.setCell ?_ ?_ _) | (with_reducible refine Below.alloc ?_ ?_ _) | (with_reducible refine Below.drew ?_) | go_size)))⟩
end
end Go.Proofs.Ythloabdfkakehaa
