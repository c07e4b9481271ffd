/-
  Words and contracts that a statement's proof rests on (Row, MemA, FgK, FgF). No statement is proved here.
-/
import Derived.Deep.OwnRows
import Derived.IntWalk
import Derived.Test.YthloabdfkakehaaBase2
import Derived.Test.YthloabdfkakehaaTicks
import Derived.Test.YthloabdfkakehaaKeyB
import Derived.Test.YthloabdfkakehaaBkE
set_option linter.unusedVariables false
set_option linter.unusedSimpArgs false
namespace Go.Proofs.Ythloabdfkakehaa
section
open Go.RowKit
theorem stInts:ST Try.prog 62 3 (.int .i64 0) 1 8:=ST.mk Try.underlying62 (by kernel_rfl) rfl (by omega) (by omega)
theorem rowIs_mk {w:World} {g M:Nat} {z:Value} {e:TypeId} (hz:z.cells=#[z]) (hg:w.heap.size=g):(w.alloc (.cells (mkC z 1 M) e)).rowIs g e M (fun _ => z):=by
 subst hg
 unfold mkC
 rw [hz,Nat.mul_one]
 exact World.rowIs_made w z M e
theorem rowIs_own {w:World} {B g M:Nat} {e:TypeId} {f:Nat→Value} (h:w.rowIs g e M f) (hB:B≤g) (hM:M≤maxLen):w.ownsRow B e 1 (.slice (some ⟨g,0,none⟩) M M) M ((List.range M).map f):=by
 obtain ⟨cs,h1,h2,h3⟩:=h
 refine own_full h1 hB h2 hM ?_
 apply List.ext_getElem
 ·simp [h2]
 ·intro i hi1 hi2
  simp at hi1 hi2
  have:=h3 i (by omega)
  rw [Array.getElem?_eq_getElem hi1] at this
  simp at this
  simp [this]
def Ints (l:List Int) (w:World) (e:Ending) (w':World):Prop :=
 ∃ A cap,e=.returned (.slice A l.length cap)∧Sl w' w'.heap.size 1 (.slice A l.length cap) l.length (kv .i64 l)∧Below w.heap.size w w'
theorem Ints.nil (w w':World) (h:Below w.heap.size w w'):Ints [] w (.returned (.slice none 0 0)) w':=⟨none,0,rfl,by simpa [kv] using Sl.nil _ _ _,h⟩
theorem Ints.row {w w':World} {g M:Nat} {e:TypeId} {f:Nat→Int} {l:List Int} (h:w'.rowIs g e M (fun j => .int .i64 (f j))) (hl:l=(List.range M).map f) (hM:M≤maxLen) (hb:Below w.heap.size w w') :
  Ints l w (.returned (.slice (some ⟨g,0,none⟩) M M)) w':=by
 have hlen:l.length=M:=by rw [hl]; simp
 refine ⟨some ⟨g,0,none⟩,M,by rw [hlen],?_,hb⟩
 rw [hlen]
 have:=Sl.of_own (rowIs_own h (Nat.zero_le _) hM)
 rw [hl]
 unfold kv
 rw [List.map_map]
 exact this
theorem kv_getElem? (κ:IntKind) (l:List Int) (k:Nat) (h:k < l.length):(kv κ l)[k]?=some (.int κ (l.getD k 0)):=by
 simp [kv,List.getD_eq_getElem?_getD,List.getElem?_eq_getElem h]
end
section
open Go.RowKit
structure MemS where
 C:Nat
 L:Nat
 c:Nat→Int
 h:Nat→Int
 t:Int
def hasC (s:MemS) (i:Int):Bool:=decide (0≤i) && decide (i < s.C)
def hasL (s:MemS) (i:Int):Bool:=decide (0≤i) && decide (i < s.L)
def peekS (s:MemS) (i:Int):Int:=if hasC s i=true then s.c i.toNat else 0
def holdS (s:MemS) (l:Int):Int:=if hasL s l=true then s.h l.toNat else -1
def tickS (s:MemS):MemS:={ s with t:=s.t + 1 }
def loadS (s:MemS) (i:Int):MemS:=if hasC s i=true then tickS s else s
def putC (s:MemS) (k:Nat) (v:Int):MemS:={ s with c:=fun j => if j=k then v else s.c j }
def putL (s:MemS) (k:Nat) (v:Int):MemS:={ s with h:=fun j => if j=k then v else s.h j }
def storeS (s:MemS) (i v:Int):MemS:=if hasC s i=true then putC (tickS s) i.toNat v else s
def okWho (s:MemS) (l who:Int):Bool:=hasL s l && decide (0≤who)
def takeB (s:MemS) (l who:Int):Bool:=okWho s l who && decide (s.h l.toNat=-1)
def takeS (s:MemS) (l who:Int):MemS:=if okWho s l who=true then (if s.h l.toNat=-1 then putL (tickS s) l.toNat who else tickS s) else s
def freeB (s:MemS) (l who:Int):Bool:=okWho s l who && decide (s.h l.toNat=who)
def freeS (s:MemS) (l who:Int):MemS:=if okWho s l who=true then (if s.h l.toNat=who then putL (tickS s) l.toNat (-1) else tickS s) else s
theorem hasC_iff {s:MemS} {i:Int}:hasC s i=true ↔ 0≤i∧i < s.C:=by simp [hasC]
theorem hasL_iff {s:MemS} {i:Int}:hasL s i=true ↔ 0≤i∧i < s.L:=by simp [hasL]
def memF (bc bl:Nat) (s:MemS):Nat→Value
 | 0 => .slice (some ⟨bc,0,none⟩) s.C s.C
 | 1 => .slice (some ⟨bl,0,none⟩) s.L s.L
 | _ => .int .i64 s.t
structure MemIn (w:World) (T:TypeId) (lo b bc bl:Nat) (s:MemS):Prop where
 b1:lo≤b
 b2:b < lo + 3
 c1:lo≤bc
 c2:bc < lo + 3
 l1:lo≤bl
 l2:bl < lo + 3
 n1:b ≠ bc
 n2:b ≠ bl
 n3:bc ≠ bl
 own:w.rowIs b T 3 (memF bc bl s)
 cells:w.rowIs bc 44 s.C (fun j => .int .u64 (s.c j))
 locks:w.rowIs bl 3 s.L (fun j => .int .i64 (s.h j))
 t0:0≤s.t
 hh:∀ l,-1≤s.h l
 cb:s.C≤1048576
 lb:s.L≤128
def MemAt (w:World) (T:TypeId) (lo b:Nat) (s:MemS):Prop:=∃ bc bl,MemIn w T lo b bc bl s
structure Touch (lo:Nat) (w w':World):Prop where
 os:w'.os=w.os
 tape:w'.tape=w.tape
 output:w'.output=w.output
 size:w.heap.size≤w'.heap.size
 block:∀ k,k < w.heap.size→(k < lo ∨ lo + 3≤k)→w'.heap[k]?=w.heap[k]?
theorem Touch.refl (lo:Nat) (w:World):Touch lo w w:=⟨rfl,rfl,rfl,Nat.le_refl _,fun _ _ _ => rfl⟩
theorem Touch.trans {lo:Nat} {a b c:World} (h:Touch lo a b) (k:Touch lo b c):Touch lo a c :=
 ⟨k.os.trans h.os,k.tape.trans h.tape,k.output.trans h.output,Nat.le_trans h.size k.size,fun i hi hn => (k.block i (Nat.lt_of_lt_of_le hi h.size) hn).trans (h.block i hi hn)⟩
theorem Touch.of_below {lo:Nat} {w w':World} (h:Below w.heap.size w w'):Touch lo w w':=⟨h.os,h.tape,h.output,h.size,fun k hk _ => h.block k hk⟩
theorem Touch.setCell {lo:Nat} {a w:World} (h:Touch lo a w) {p:Addr} (h1:lo≤p.block) (h2:p.block < lo + 3) (u:Value):Touch lo a (w.setCell p u) :=
 h.trans ⟨rfl,rfl,rfl,by simp [World.setCell],fun k hk hn => Below.heap_setCell _ _ _ _ (by omega)⟩
theorem Touch.alloc {lo:Nat} {a w:World} (h:Touch lo a w) (o:Obj):Touch lo a (w.alloc o):=h.trans (Touch.of_below ((Below.refl _ _).alloc (Nat.le_refl _) o))
theorem Touch.drewN {lo:Nat} {a w:World} (h:Touch lo a w) (n:Nat):Touch lo a (w.drewN n):=h.trans (Touch.of_below (below_drewN (Below.refl _ _) n))
theorem Touch.below {B lo:Nat} {W w w':World} (h:Touch lo w w') (hb:Below B W w) (hB:B≤lo) (hB2:B≤w.heap.size):Below B W w' :=
 hb.trans ⟨h.os,h.tape,h.output,h.size,fun k hk => h.block k (by omega) (Or.inl (by omega))⟩
theorem MemIn.of_blocks {w w':World} {T:TypeId} {lo b bc bl:Nat} {s:MemS} (h:MemIn w T lo b bc bl s) (hb:∀ k,lo≤k→k < lo + 3→k < w.heap.size→w'.heap[k]?=w.heap[k]?):MemIn w' T lo b bc bl s :=
 { h with
  own:=h.own.of_block (hb _ h.b1 h.b2 h.own.lt)
  cells:=h.cells.of_block (hb _ h.c1 h.c2 h.cells.lt)
  locks:=h.locks.of_block (hb _ h.l1 h.l2 h.locks.lt) }
theorem MemAt.below {w w':World} {T:TypeId} {lo b:Nat} {s:MemS} (h:MemAt w T lo b s) (hb:Below w.heap.size w w'):MemAt w' T lo b s:=by
 obtain ⟨bc,bl,h⟩:=h
 exact ⟨bc,bl,h.of_blocks fun k _ _ hk => hb.block k hk⟩
theorem MemAt.touch {w w':World} {T:TypeId} {lo lo' b:Nat} {s:MemS} (h:MemAt w T lo b s) (ht:Touch lo' w w') (hd:lo + 3≤lo' ∨ lo' + 3≤lo):MemAt w' T lo b s:=by
 obtain ⟨bc,bl,h⟩:=h
 exact ⟨bc,bl,h.of_blocks fun k h1 h2 hk => ht.block k hk (by omega)⟩
theorem MemAt.drewN {w:World} {T:TypeId} {lo b:Nat} {s:MemS} (h:MemAt w T lo b s) (n:Nat):MemAt (w.drewN n) T lo b s:=h.below (below_drewN (Below.refl _ _) n)
theorem MemAt.alloc {w:World} {T:TypeId} {lo b:Nat} {s:MemS} (h:MemAt w T lo b s) (o:Obj):MemAt (w.alloc o) T lo b s:=h.below ((Below.refl _ _).alloc (Nat.le_refl _) o)
theorem MemIn.tick {w:World} {T:TypeId} {lo b bc bl:Nat} {s:MemS} (h:MemIn w T lo b bc bl s):MemIn (w.setCell ⟨b,2,none⟩ (.int .i64 (s.t + 1))) T lo b bc bl (tickS s) :=
 { h with
  own:=(h.own.set 2 _).congr fun i hi => by
   match i,hi with
   | 0,_ => rfl
   | 1,_ => rfl
   | 2,_ => rfl
  cells:=h.cells.setOther (Ne.symm h.n1) _
  locks:=h.locks.setOther (Ne.symm h.n2) _
  t0:=by have:=h.t0; show 0≤s.t + 1; omega }
theorem MemIn.putC {w:World} {T:TypeId} {lo b bc bl:Nat} {s:MemS} (h:MemIn w T lo b bc bl s) (k:Nat) (v:Int):MemIn (w.setCell ⟨bc,k,none⟩ (.int .u64 v)) T lo b bc bl (putC s k v) :=
 { h with
  own:=(h.own.setOther h.n1 _).congr fun i hi => by
   match i,hi with
   | 0,_ => rfl
   | 1,_ => rfl
   | 2,_ => rfl
  cells:=(h.cells.set k _).congr fun i hi => by show (if i=k then _ else _)=Value.int .u64 (if i=k then _ else _); split <;> rfl
  locks:=h.locks.setOther (Ne.symm h.n3) _ }
theorem MemIn.putL {w:World} {T:TypeId} {lo b bc bl:Nat} {s:MemS} (h:MemIn w T lo b bc bl s) (k:Nat) (v:Int) (hv:-1≤v):MemIn (w.setCell ⟨bl,k,none⟩ (.int .i64 v)) T lo b bc bl (putL s k v) :=
 { h with
  own:=(h.own.setOther h.n2 _).congr fun i hi => by
   match i,hi with
   | 0,_ => rfl
   | 1,_ => rfl
   | 2,_ => rfl
  cells:=h.cells.setOther h.n3 _
  locks:=(h.locks.set k _).congr fun i hi => by show (if i=k then _ else _)=Value.int .i64 (if i=k then _ else _); split <;> rfl
  hh:=fun l => by show -1≤(if l=k then v else s.h l); have:=h.hh l; split <;> omega }
theorem MemIn.at_ {w:World} {T:TypeId} {lo b bc bl:Nat} {s:MemS} (h:MemIn w T lo b bc bl s) :
  w.cell? ⟨b,0,none⟩=some (.slice (some ⟨bc,0,none⟩) s.C s.C)∧w.cell? ⟨b,1,none⟩=some (.slice (some ⟨bl,0,none⟩) s.L s.L)∧w.cell? ⟨b,2,none⟩=some (.int .i64 s.t)∧w.frozen? ⟨b,2,none⟩=false :=
 ⟨h.own.cell (by omega),h.own.cell (by omega),h.own.cell (by omega),h.own.frozen 2⟩
theorem MemIn.c_at {w:World} {T:TypeId} {lo b bc bl:Nat} {s:MemS} (h:MemIn w T lo b bc bl s) {k:Nat} (hk:k < s.C):w.cell? ⟨bc,k,none⟩=some (.int .u64 (s.c k))∧w.frozen? ⟨bc,k,none⟩=false:=⟨h.cells.cell hk,h.cells.frozen k⟩
theorem MemIn.l_at {w:World} {T:TypeId} {lo b bc bl:Nat} {s:MemS} (h:MemIn w T lo b bc bl s) {k:Nat} (hk:k < s.L):w.cell? ⟨bl,k,none⟩=some (.int .i64 (s.h k))∧w.frozen? ⟨bl,k,none⟩=false:=⟨h.locks.cell hk,h.locks.frozen k⟩
def MemDid (T:TypeId) (lo b:Nat) (s':MemS) (v:Value) (w:World) (e:Ending) (w':World):Prop:=e=.returned v∧MemAt w' T lo b s'∧Touch lo w w'
end
section
open Go.RowKit
theorem law8_ToK (v m:Int) (w:World) :
  Calls Try.prog 18 #[.agg #[.int .i64 v,.int .u64 m]] w (Says (.agg #[.int .i64 v,.int .u64 m]) w):=by
 go_enter Try.func18,Try.ntmps18
 go_wp2
 exact bodyPost_ret (v:=.agg #[.int .i64 v,.int .u64 m]) (by simp [results,Try.results18,go_sem]) rfl ⟨rfl,(by (repeat' (first | (with_reducible exact Below.refl _ _) | (with_reducible assumption) | (with_reducible refine Below.setCell ?_ ?_ _) | (with_reducible refine Below.alloc ?_ ?_ _) | go_size)))⟩
end
section
open Go.RowKit
theorem fix_sizeK (x:Int) (k:Nat) (hk:1≤k) (hk2:k≤16):∃ S:Nat,1≤S∧S≤k∧wrap64 (1 + wrap64 ((IntKind.u64.wrap x).tmod (k:Int)))=(S:Int):=by
 have h1:0≤IntKind.u64.wrap x:=by rw [IntKind.wrap_u64]; omega
 rw [Int.tmod_eq_emod_of_nonneg h1]
 have a1:=Int.emod_nonneg (IntKind.u64.wrap x) (show (k:Int) ≠ 0 by omega)
 have a2:=Int.emod_lt_of_pos (IntKind.u64.wrap x) (show 0 < (k:Int) by omega)
 generalize IntKind.u64.wrap x % (k:Int)=y at *
 refine ⟨(1 + y).toNat,by omega,by omega,?_⟩
 rw [IntWalk.wrap64_in y (by omega),IntWalk.wrap64_in _ (by omega)]
 omega
theorem port64K (x:Int):∃ P:Nat,P < 64∧wrap64 ((IntKind.u64.wrap x).tmod 64)=(P:Int)∧IntKind.i64.wrap ((IntKind.u64.wrap x).tmod 64)=(P:Int):=by
 have h1:0≤IntKind.u64.wrap x:=by rw [IntKind.wrap_u64]; omega
 rw [Int.tmod_eq_emod_of_nonneg h1]
 refine ⟨(IntKind.u64.wrap x % 64).toNat,by omega,?_,?_⟩
 ·rw [IntWalk.wrap64_in _ (by omega)]; omega
 ·rw [IntWalk.i64_in _ (by omega)]; omega
set_option maxHeartbeats 1600000 in
theorem ref11_FixK (a b c:Int) (S B n:Nat) (h1:wrap64 (1 + wrap64 ((IntKind.u64.wrap a).tmod ((8:Nat):Int)))=(S:Int)) (h2:wrap64 (1 + wrap64 ((IntKind.u64.wrap b).tmod ((16:Nat):Int)))=(B:Int)) (h3:wrap64 (1 + wrap64 ((IntKind.u64.wrap c).tmod ((8:Nat):Int)))=(n:Int)) (w:World) :
  Calls Try.prog 16 #[.agg #[.int .i64 a,.int .i64 b,.int .i64 c]] w (Says (.agg #[.int .i64 (S:Nat),.int .i64 (B:Nat),.int .i64 (n:Nat)]) w):=by
 rw [show ((8:Nat):Int)=8 from rfl] at h1 h3
 rw [show ((16:Nat):Int)=16 from rfl] at h2
 go_enter Try.func16,Try.ntmps16
 go_wp2
 exact bodyPost_ret (v:=.agg #[.int .i64 (S:Nat),.int .i64 (B:Nat),.int .i64 (n:Nat)]) (by simp [results,Try.results16,go_sem]) rfl ⟨rfl,(by (repeat' (first | (with_reducible exact Below.refl _ _) | (with_reducible refine Below.setCell ?_ ?_ _) | (with_reducible refine Below.alloc ?_ ?_ _) | go_size)))⟩
end
end Go.Proofs.Ythloabdfkakehaa
