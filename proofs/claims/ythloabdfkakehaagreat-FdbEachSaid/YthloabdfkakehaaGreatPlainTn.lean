/-
  Words and contracts that a statement's proof rests on (MemA, PlainRg, MemB, PlainTn). No statement is proved here.
-/
import Derived.Laws.Bits64
import Derived.WalkKit
import Derived.Test.YthloabdfkakehaaGreatOrd
import Derived.Test.YthloabdfkakehaaGreatOpenI
set_option linter.unusedVariables false
set_option linter.unusedSimpArgs false
namespace Go.Proofs.YthloabdfkakehaaGreat
section
open Go.RowKit
structure MemS where
 C:Nat
 L:Nat
 c:Nat→Int
 h:Nat→Int
 t:Int
def hasC (s:MemS) (i:Int):Bool:=decide (0≤i) && decide (i < s.C)
def hasL (s:MemS) (i:Int):Bool:=decide (0≤i) && decide (i < s.L)
def peekS (s:MemS) (i:Int):Int:=if hasC s i=true then s.c i.toNat else 0
def tickS (s:MemS):MemS:={ s with t:=s.t + 1 }
def loadS (s:MemS) (i:Int):MemS:=if hasC s i=true then tickS s else s
def putC (s:MemS) (k:Nat) (v:Int):MemS:={ s with c:=fun j => if j=k then v else s.c j }
def putL (s:MemS) (k:Nat) (v:Int):MemS:={ s with h:=fun j => if j=k then v else s.h j }
def storeS (s:MemS) (i v:Int):MemS:=if hasC s i=true then putC (tickS s) i.toNat v else s
def okWho (s:MemS) (l who:Int):Bool:=hasL s l && decide (0≤who)
def takeB (s:MemS) (l who:Int):Bool:=okWho s l who && decide (s.h l.toNat=-1)
def takeS (s:MemS) (l who:Int):MemS:=if okWho s l who=true then (if s.h l.toNat=-1 then putL (tickS s) l.toNat who else tickS s) else s
def freeB (s:MemS) (l who:Int):Bool:=okWho s l who && decide (s.h l.toNat=who)
def freeS (s:MemS) (l who:Int):MemS:=if okWho s l who=true then (if s.h l.toNat=who then putL (tickS s) l.toNat (-1) else tickS s) else s
theorem hasC_iff {s:MemS} {i:Int}:hasC s i=true ↔ 0≤i∧i < s.C:=by simp [hasC]
theorem hasL_iff {s:MemS} {i:Int}:hasL s i=true ↔ 0≤i∧i < s.L:=by simp [hasL]
def memF (bc bl:Nat) (s:MemS):Nat→Value
 | 0 => .slice (some ⟨bc,0,none⟩) s.C s.C
 | 1 => .slice (some ⟨bl,0,none⟩) s.L s.L
 | _ => .int .i64 s.t
structure MemIn (w:World) (T:TypeId) (lo b bc bl:Nat) (s:MemS):Prop where
 b1:lo≤b
 b2:b < lo + 3
 c1:lo≤bc
 c2:bc < lo + 3
 l1:lo≤bl
 l2:bl < lo + 3
 n1:b ≠ bc
 n2:b ≠ bl
 n3:bc ≠ bl
 own:w.rowIs b T 3 (memF bc bl s)
 cells:w.rowIs bc 38 s.C (fun j => .int .u64 (s.c j))
 locks:w.rowIs bl 3 s.L (fun j => .int .i64 (s.h j))
 t0:0≤s.t
 hh:∀ l,-1≤s.h l
 cb:s.C≤1048576
 lb:s.L≤128
def MemAt (w:World) (T:TypeId) (lo b:Nat) (s:MemS):Prop:=∃ bc bl,MemIn w T lo b bc bl s
structure Touch (lo:Nat) (w w':World):Prop where
 os:w'.os=w.os
 tape:w'.tape=w.tape
 output:w'.output=w.output
 size:w.heap.size≤w'.heap.size
 block:∀ k,k < w.heap.size→(k < lo ∨ lo + 3≤k)→w'.heap[k]?=w.heap[k]?
theorem Touch.refl (lo:Nat) (w:World):Touch lo w w:=⟨rfl,rfl,rfl,Nat.le_refl _,fun _ _ _ => rfl⟩
theorem Touch.trans {lo:Nat} {a b c:World} (h:Touch lo a b) (k:Touch lo b c):Touch lo a c :=
 ⟨k.os.trans h.os,k.tape.trans h.tape,k.output.trans h.output,Nat.le_trans h.size k.size,fun i hi hn => (k.block i (Nat.lt_of_lt_of_le hi h.size) hn).trans (h.block i hi hn)⟩
theorem Touch.of_below {lo:Nat} {w w':World} (h:Below w.heap.size w w'):Touch lo w w':=⟨h.os,h.tape,h.output,h.size,fun k hk _ => h.block k hk⟩
theorem Touch.setCell {lo:Nat} {a w:World} (h:Touch lo a w) {p:Addr} (h1:lo≤p.block) (h2:p.block < lo + 3) (u:Value):Touch lo a (w.setCell p u) :=
 h.trans ⟨rfl,rfl,rfl,by simp [World.setCell],fun k hk hn => Below.heap_setCell _ _ _ _ (by omega)⟩
theorem Touch.alloc {lo:Nat} {a w:World} (h:Touch lo a w) (o:Obj):Touch lo a (w.alloc o):=h.trans (Touch.of_below ((Below.refl _ _).alloc (Nat.le_refl _) o))
theorem Touch.drewN {lo:Nat} {a w:World} (h:Touch lo a w) (n:Nat):Touch lo a (w.drewN n):=h.trans (Touch.of_below (below_drewN (Below.refl _ _) n))
theorem Touch.below {B lo:Nat} {W w w':World} (h:Touch lo w w') (hb:Below B W w) (hB:B≤lo) (hB2:B≤w.heap.size):Below B W w' :=
 hb.trans ⟨h.os,h.tape,h.output,h.size,fun k hk => h.block k (by omega) (Or.inl (by omega))⟩
theorem MemIn.of_blocks {w w':World} {T:TypeId} {lo b bc bl:Nat} {s:MemS} (h:MemIn w T lo b bc bl s) (hb:∀ k,lo≤k→k < lo + 3→k < w.heap.size→w'.heap[k]?=w.heap[k]?):MemIn w' T lo b bc bl s :=
 { h with
  own:=h.own.of_block (hb _ h.b1 h.b2 h.own.lt)
  cells:=h.cells.of_block (hb _ h.c1 h.c2 h.cells.lt)
  locks:=h.locks.of_block (hb _ h.l1 h.l2 h.locks.lt) }
theorem MemAt.below {w w':World} {T:TypeId} {lo b:Nat} {s:MemS} (h:MemAt w T lo b s) (hb:Below w.heap.size w w'):MemAt w' T lo b s:=by
 obtain ⟨bc,bl,h⟩:=h
 exact ⟨bc,bl,h.of_blocks fun k _ _ hk => hb.block k hk⟩
theorem MemAt.touch {w w':World} {T:TypeId} {lo lo' b:Nat} {s:MemS} (h:MemAt w T lo b s) (ht:Touch lo' w w') (hd:lo + 3≤lo' ∨ lo' + 3≤lo):MemAt w' T lo b s:=by
 obtain ⟨bc,bl,h⟩:=h
 exact ⟨bc,bl,h.of_blocks fun k h1 h2 hk => ht.block k hk (by omega)⟩
theorem MemAt.drewN {w:World} {T:TypeId} {lo b:Nat} {s:MemS} (h:MemAt w T lo b s) (n:Nat):MemAt (w.drewN n) T lo b s:=h.below (below_drewN (Below.refl _ _) n)
theorem MemAt.alloc {w:World} {T:TypeId} {lo b:Nat} {s:MemS} (h:MemAt w T lo b s) (o:Obj):MemAt (w.alloc o) T lo b s:=h.below ((Below.refl _ _).alloc (Nat.le_refl _) o)
theorem MemIn.tick {w:World} {T:TypeId} {lo b bc bl:Nat} {s:MemS} (h:MemIn w T lo b bc bl s):MemIn (w.setCell ⟨b,2,none⟩ (.int .i64 (s.t + 1))) T lo b bc bl (tickS s) :=
 { h with
  own:=(h.own.set 2 _).congr fun i hi => by
   match i,hi with
   | 0,_ => rfl
   | 1,_ => rfl
   | 2,_ => rfl
  cells:=h.cells.setOther (Ne.symm h.n1) _
  locks:=h.locks.setOther (Ne.symm h.n2) _
  t0:=by have:=h.t0; show 0≤s.t + 1; omega }
theorem MemIn.putC {w:World} {T:TypeId} {lo b bc bl:Nat} {s:MemS} (h:MemIn w T lo b bc bl s) (k:Nat) (v:Int):MemIn (w.setCell ⟨bc,k,none⟩ (.int .u64 v)) T lo b bc bl (putC s k v) :=
 { h with
  own:=(h.own.setOther h.n1 _).congr fun i hi => by
   match i,hi with
   | 0,_ => rfl
   | 1,_ => rfl
   | 2,_ => rfl
  cells:=(h.cells.set k _).congr fun i hi => by show (if i=k then _ else _)=Value.int .u64 (if i=k then _ else _); split <;> rfl
  locks:=h.locks.setOther (Ne.symm h.n3) _ }
theorem MemIn.putL {w:World} {T:TypeId} {lo b bc bl:Nat} {s:MemS} (h:MemIn w T lo b bc bl s) (k:Nat) (v:Int) (hv:-1≤v):MemIn (w.setCell ⟨bl,k,none⟩ (.int .i64 v)) T lo b bc bl (putL s k v) :=
 { h with
  own:=(h.own.setOther h.n2 _).congr fun i hi => by
   match i,hi with
   | 0,_ => rfl
   | 1,_ => rfl
   | 2,_ => rfl
  cells:=h.cells.setOther h.n3 _
  locks:=(h.locks.set k _).congr fun i hi => by show (if i=k then _ else _)=Value.int .i64 (if i=k then _ else _); split <;> rfl
  hh:=fun l => by show -1≤(if l=k then v else s.h l); have:=h.hh l; split <;> omega }
theorem MemIn.at_ {w:World} {T:TypeId} {lo b bc bl:Nat} {s:MemS} (h:MemIn w T lo b bc bl s) :
  w.cell? ⟨b,0,none⟩=some (.slice (some ⟨bc,0,none⟩) s.C s.C)∧w.cell? ⟨b,1,none⟩=some (.slice (some ⟨bl,0,none⟩) s.L s.L)∧w.cell? ⟨b,2,none⟩=some (.int .i64 s.t)∧w.frozen? ⟨b,2,none⟩=false :=
 ⟨h.own.cell (by omega),h.own.cell (by omega),h.own.cell (by omega),h.own.frozen 2⟩
theorem MemIn.c_at {w:World} {T:TypeId} {lo b bc bl:Nat} {s:MemS} (h:MemIn w T lo b bc bl s) {k:Nat} (hk:k < s.C):w.cell? ⟨bc,k,none⟩=some (.int .u64 (s.c k))∧w.frozen? ⟨bc,k,none⟩=false:=⟨h.cells.cell hk,h.cells.frozen k⟩
theorem MemIn.l_at {w:World} {T:TypeId} {lo b bc bl:Nat} {s:MemS} (h:MemIn w T lo b bc bl s) {k:Nat} (hk:k < s.L):w.cell? ⟨bl,k,none⟩=some (.int .i64 (s.h k))∧w.frozen? ⟨bl,k,none⟩=false:=⟨h.locks.cell hk,h.locks.frozen k⟩
def MemDid (T:TypeId) (lo b:Nat) (s':MemS) (v:Value) (w:World) (e:Ending) (w':World):Prop:=e=.returned v∧MemAt w' T lo b s'∧Touch lo w w'
end
section
structure RgS where
 m:MemS
 ba:Nat
 sz:Nat
 st:Int
 pu:Bool
 po:Bool
def tickR (g:RgS):RgS:={ g with m:=tickS g.m }
def putR (g:RgS) (k:Nat) (v:Int):RgS:={ g with m:=putC (tickS g.m) k v }
structure Fits (g:RgS):Prop where
 cells:g.ba + 2 + g.sz≤g.m.C
 mem:g.m.C≤1048576
 one:1≤g.sz
 most:g.sz≤64
structure RngQ (g:RgS) (p t:Nat) (q:List Int):Prop where
 fits:Fits g
 st0:0≤g.st
 st1:g.st < 18446744073709551616
 cp:g.m.c g.ba=(g.st + p) % 18446744073709551616
 ct:g.m.c (g.ba + 1)=(g.st + t) % 18446744073709551616
 tp:t≤p
 len:q.length=p - t
 room:p - t≤g.sz
 few:p≤1000000
 num:∀ i (h:i < q.length),g.m.c (g.ba + 2 + (t + i) % g.sz)=q[i]
theorem RngQ.tick {g:RgS} {p t:Nat} {q:List Int} (h:RngQ g p t q):RngQ (tickR g) p t q :=
 ⟨⟨h.fits.cells,h.fits.mem,h.fits.one,h.fits.most⟩,h.st0,h.st1,h.cp,h.ct,h.tp,h.len,h.room,h.few,h.num⟩
theorem mod_ne {a b n:Nat} (hab:a < b) (h:b < a + n):a % n ≠ b % n:=by
 intro e
 have h1:=Nat.div_add_mod a n
 have h2:=Nat.div_add_mod b n
 rw [e] at h1
 have h3:n * (a / n) < n * (b / n):=by omega
 have h4:a / n < b / n:=Nat.lt_of_mul_lt_mul_left h3
 have h5:n * (a / n + 1)≤n * (b / n):=Nat.mul_le_mul_left _ h4
 rw [Nat.mul_add] at h5
 omega
theorem RngQ.put {g:RgS} {p t:Nat} {q:List Int} (h:RngQ g p t q) (hr:p - t < g.sz) (v:Int):RngQ (putR g (g.ba + 2 + p % g.sz) v) p t q:=by
 refine ⟨⟨h.fits.cells,h.fits.mem,h.fits.one,h.fits.most⟩,h.st0,h.st1,?_,?_,h.tp,h.len,h.room,h.few,fun i hi => ?_⟩
 ·show (if g.ba=_ then _ else _)=_
  rw [if_neg (by omega)]; exact h.cp
 ·show (if g.ba + 1=_ then _ else _)=_
  rw [if_neg (by omega)]; exact h.ct
 ·show (if g.ba + 2 + (t + i) % g.sz=_ then _ else _)=_
  have:=h.len
  have:=h.tp
  rw [if_neg (by have:=mod_ne (a:=t + i) (b:=p) (n:=g.sz) (by omega) (by omega); omega)]
  exact h.num i hi
theorem RngQ.push {g:RgS} {p t:Nat} {q:List Int} (h:RngQ g p t q) (hr:p - t < g.sz) (hf:p + 1≤1000000) {v:Int} (hv:g.m.c (g.ba + 2 + p % g.sz)=v) :
  RngQ (putR g g.ba (((g.st + p) % 18446744073709551616 + 1) % 18446744073709551616)) (p + 1) t (q ++ [v]):=by
 have hl:=h.len
 have htp:=h.tp
 refine ⟨⟨h.fits.cells,h.fits.mem,h.fits.one,h.fits.most⟩,h.st0,h.st1,?_,?_,by omega,by simp; omega,by show p + 1 - t≤g.sz; omega,hf,fun i hi => ?_⟩
 ·show (if g.ba=g.ba then _ else _)=(g.st + ((p + 1:Nat):Int)) % _
  rw [if_pos rfl]; omega
 ·show (if g.ba + 1=g.ba then _ else _)=_
  rw [if_neg (by omega)]; exact h.ct
 ·show (if g.ba + 2 + (t + i) % g.sz=g.ba then _ else _)=_
  rw [if_neg (by omega)]
  by_cases hi2:i < q.length
  ·rw [List.getElem_append_left hi2]; exact h.num i hi2
  ·have:i=p - t:=by simp at hi; omega
   rw [List.getElem_append_right (by omega)]
   simp
   rw [show t + i=p by omega]; exact hv
end
section
open Go.RowKit
theorem mem_Cells {w:World} {lo b:Nat} {s:MemS} (hm:MemAt w 112 lo b s) :
  Calls Tryz.prog 87 #[.pointer (some ⟨b,0,none⟩)] w fun e w' => e=.returned (.int .i64 (s.C:Int))∧w=w':=by
 obtain ⟨bc,bl,hm⟩:=hm
 obtain ⟨h0,h1,h2,h3⟩:=hm.at_
 go_enter Tryz.func87,Tryz.ntmps87
 go_wp2
 go_ret
 exact ⟨rfl,rfl⟩
theorem mem_Locks {w:World} {lo b:Nat} {s:MemS} (hm:MemAt w 112 lo b s) :
  Calls Tryz.prog 88 #[.pointer (some ⟨b,0,none⟩)] w fun e w' => e=.returned (.int .i64 (s.L:Int))∧w=w':=by
 obtain ⟨bc,bl,hm⟩:=hm
 obtain ⟨h0,h1,h2,h3⟩:=hm.at_
 go_enter Tryz.func88,Tryz.ntmps88
 go_wp2
 go_ret
 exact ⟨rfl,rfl⟩
theorem mem_Time {w:World} {lo b:Nat} {s:MemS} (hm:MemAt w 112 lo b s) :
  Calls Tryz.prog 36 #[.pointer (some ⟨b,0,none⟩)] w fun e w' => e=.returned (.int .i64 s.t)∧w=w':=by
 obtain ⟨bc,bl,hm⟩:=hm
 obtain ⟨h0,h1,h2,h3⟩:=hm.at_
 go_enter Tryz.func36,Tryz.ntmps36
 go_wp2
 go_ret
 exact ⟨rfl,rfl⟩
theorem mem_hasCell (i:Int) {w:World} {lo b:Nat} {s:MemS} (hm:MemAt w 112 lo b s) :
  Calls Tryz.prog 126 #[.pointer (some ⟨b,0,none⟩),.int .i64 i] w fun e w' => e=.returned (.bool (hasC s i))∧w=w':=by
 have HC:=Lib.hid (mem_Cells hm)
 obtain ⟨bc,bl,hm⟩:=hm
 obtain ⟨h0,h1,h2,h3⟩:=hm.at_
 have hb:=hm.cb
 unfold hasC
 clear hm
 by_cases hi:0≤i
 ·have hd:decide (0≤i)=true:=by simpa using hi
  go_enter Tryz.func126,Tryz.ntmps126
  go_wp2_with fail
  refine (HC.out).mono ?_
  rintro e w1 ⟨rfl,rfl⟩
  go_wp2
  go_ret
  exact ⟨ret_bool (by simp [hi]),rfl⟩
 ·have hd:decide (0≤i)=false:=by simpa using hi
  go_enter Tryz.func126,Tryz.ntmps126
  go_wp2
  go_ret
  exact ⟨ret_bool (by simp),rfl⟩
theorem mem_hasLock (i:Int) {w:World} {lo b:Nat} {s:MemS} (hm:MemAt w 112 lo b s) :
  Calls Tryz.prog 54 #[.pointer (some ⟨b,0,none⟩),.int .i64 i] w fun e w' => e=.returned (.bool (hasL s i))∧w=w':=by
 have HC:=Lib.hid (mem_Locks hm)
 obtain ⟨bc,bl,hm⟩:=hm
 obtain ⟨h0,h1,h2,h3⟩:=hm.at_
 have hb:=hm.lb
 unfold hasL
 clear hm
 by_cases hi:0≤i
 ·have hd:decide (0≤i)=true:=by simpa using hi
  go_enter Tryz.func54,Tryz.ntmps54
  go_wp2_with fail
  refine (HC.out).mono ?_
  rintro e w1 ⟨rfl,rfl⟩
  go_wp2
  go_ret
  exact ⟨ret_bool (by simp [hi]),rfl⟩
 ·have hd:decide (0≤i)=false:=by simpa using hi
  go_enter Tryz.func54,Tryz.ntmps54
  go_wp2
  go_ret
  exact ⟨ret_bool (by simp),rfl⟩
theorem mem_Peek (i:Int) {w:World} {lo b:Nat} {s:MemS} (hm:MemAt w 112 lo b s) :
  Calls Tryz.prog 95 #[.pointer (some ⟨b,0,none⟩),.int .i64 i] w fun e w' => e=.returned (.int .u64 (peekS s i))∧w=w':=by
 have HH:=mem_hasCell i hm
 obtain ⟨bc,bl,hm⟩:=hm
 obtain ⟨h0,h1,h2,h3⟩:=hm.at_
 unfold peekS
 cases hc:hasC s i
 ·rw [hc] at HH
  rw [if_neg (by simp)]
  have HH:=Lib.hid HH
  clear hc hm
  go_enter Tryz.func95,Tryz.ntmps95
  go_wp2_with fail
  refine (HH.out).mono ?_
  rintro e w1 ⟨rfl,rfl⟩
  go_wp2
  go_ret
  exact ⟨rfl,rfl⟩
 ·rw [hc] at HH
  rw [if_pos rfl]
  have HH:=Lib.hid HH
  obtain ⟨hi0,hi1⟩:=hasC_iff.1 hc
  obtain ⟨k,rfl⟩:=Int.eq_ofNat_of_zero_le hi0
  rw [Int.toNat_natCast]
  obtain ⟨hk1,hk2⟩:=hm.c_at (k:=k) (by omega)
  have hcb:=hm.cb
  have hlb:=hm.lb
  clear hc hm
  go_enter Tryz.func95,Tryz.ntmps95
  go_wp2_with fail
  refine (HH.out).mono ?_
  rintro e w1 ⟨rfl,rfl⟩
  go_wp2
  go_ret
  exact ⟨rfl,rfl⟩
set_option maxHeartbeats 800000 in
theorem mem_Load (i:Int) {w:World} {lo b:Nat} {s:MemS} (hm:MemAt w 112 lo b s) (ht:s.t≤4611686018427387904) :
  Calls Tryz.prog 103 #[.pointer (some ⟨b,0,none⟩),.int .i64 i] w (MemDid 112 lo b (loadS s i) (.int .u64 (peekS s i)) w):=by
 have HH:=mem_hasCell i hm
 obtain ⟨bc,bl,hm⟩:=hm
 obtain ⟨h0,h1,h2,h3⟩:=hm.at_
 have HM:=Lib.hid hm
 unfold peekS loadS
 cases hc:hasC s i
 ·rw [hc] at HH
  rw [if_neg (by simp),if_neg (by simp)]
  have HH:=Lib.hid HH
  clear hc hm
  go_enter Tryz.func103,Tryz.ntmps103
  go_wp2_with fail
  refine (HH.out).mono ?_
  rintro e w1 ⟨rfl,rfl⟩
  go_wp2
  go_ret
  exact ⟨rfl,⟨bc,bl,HM.out⟩,Touch.refl _ _⟩
 ·rw [hc] at HH
  rw [if_pos rfl,if_pos rfl]
  have HH:=Lib.hid HH
  obtain ⟨hi0,hi1⟩:=hasC_iff.1 hc
  obtain ⟨k,rfl⟩:=Int.eq_ofNat_of_zero_le hi0
  rw [Int.toNat_natCast]
  have hk:k < s.C:=by omega
  have HT:=Lib.hid hm.tick
  obtain ⟨hk1,hk2⟩:=hm.tick.c_at (k:=k) hk
  obtain ⟨g0,g1,g2,g3⟩:=hm.tick.at_
  have hb1:=hm.b1
  have hb2:=hm.b2
  have hcb:=hm.cb
  have ht0:=hm.t0
  change World.cell? _ ⟨b,0,none⟩=some (.slice (some ⟨bc,0,none⟩) s.C s.C) at g0
  change World.cell? _ ⟨bc,k,none⟩=some (.int .u64 (s.c k)) at hk1
  clear hc hm g1 g2 g3 hk2
  go_enter Tryz.func103,Tryz.ntmps103
  go_wp2_with fail
  refine (HH.out).mono ?_
  rintro e w1 ⟨rfl,rfl⟩
  go_wp2
  go_ret
  exact ⟨rfl,⟨bc,bl,HT.out⟩,(Touch.refl _ _).setCell hb1 hb2 _⟩
set_option maxHeartbeats 800000 in
theorem mem_Store (i v:Int) {w:World} {lo b:Nat} {s:MemS} (hm:MemAt w 112 lo b s) (ht:s.t≤4611686018427387904) :
  Calls Tryz.prog 108 #[.pointer (some ⟨b,0,none⟩),.int .i64 i,.int .u64 v] w (MemDid 112 lo b (storeS s i v) (.tuple #[]) w):=by
 have HH:=mem_hasCell i hm
 obtain ⟨bc,bl,hm⟩:=hm
 obtain ⟨h0,h1,h2,h3⟩:=hm.at_
 have HM:=Lib.hid hm
 unfold storeS
 cases hc:hasC s i
 ·rw [hc] at HH
  rw [if_neg (by simp)]
  have HH:=Lib.hid HH
  clear hc hm
  go_enter Tryz.func108,Tryz.ntmps108
  go_wp2_with fail
  refine (HH.out).mono ?_
  rintro e w1 ⟨rfl,rfl⟩
  go_wp2
  go_end0
  exact ⟨rfl,⟨bc,bl,HM.out⟩,Touch.refl _ _⟩
 ·rw [hc] at HH
  rw [if_pos rfl]
  have HH:=Lib.hid HH
  obtain ⟨hi0,hi1⟩:=hasC_iff.1 hc
  obtain ⟨k,rfl⟩:=Int.eq_ofNat_of_zero_le hi0
  rw [Int.toNat_natCast]
  have hk:k < s.C:=by omega
  have HT:=Lib.hid (hm.tick.putC k v)
  obtain ⟨hk1,hk2⟩:=hm.tick.c_at (k:=k) hk
  obtain ⟨g0,g1,g2,g3⟩:=hm.tick.at_
  have hb1:=hm.b1
  have hb2:=hm.b2
  have hc1:=hm.c1
  have hc2:=hm.c2
  have hcb:=hm.cb
  have ht0:=hm.t0
  change World.cell? _ ⟨b,0,none⟩=some (.slice (some ⟨bc,0,none⟩) s.C s.C) at g0
  change World.cell? _ ⟨bc,k,none⟩=some (.int .u64 (s.c k)) at hk1
  clear hc hm g1 g2 g3
  go_enter Tryz.func108,Tryz.ntmps108
  go_wp2_with fail
  refine (HH.out).mono ?_
  rintro e w1 ⟨rfl,rfl⟩
  go_wp2
  go_end0
  exact ⟨rfl,⟨bc,bl,HT.out⟩,((Touch.refl _ _).setCell hb1 hb2 _).setCell hc1 hc2 _⟩
def handB (s:MemS) (l fr:Int):Bool:=hasL s l && decide (s.h l.toNat=fr)
def handS (s:MemS) (l fr to:Int):MemS:=if hasL s l=true then (if s.h l.toNat=fr then putL (tickS s) l.toNat to else tickS s) else s
set_option maxHeartbeats 800000 in
theorem mem_hand (l fr to:Int) (hto:-1≤to) {w:World} {lo b:Nat} {s:MemS} (hm:MemAt w 112 lo b s) (ht:s.t≤4611686018427387904) :
  Calls Tryz.prog 55 #[.pointer (some ⟨b,0,none⟩),.int .i64 l,.int .i64 fr,.int .i64 to] w (MemDid 112 lo b (handS s l fr to) (.bool (handB s l fr)) w):=by
 have HH:=mem_hasLock l hm
 obtain ⟨bc,bl,hm⟩:=hm
 obtain ⟨h0,h1,h2,h3⟩:=hm.at_
 have HM:=Lib.hid hm
 cases hc:hasL s l
 ·rw [hc] at HH
  have e1:handB s l fr=false:=by simp [handB,hc]
  have e2:handS s l fr to=s:=by simp [handS,hc]
  rw [e1,e2]
  have HH:=Lib.hid HH
  clear hc hm
  go_enter Tryz.func55,Tryz.ntmps55
  go_wp2_with fail
  refine (HH.out).mono ?_
  rintro e w1 ⟨rfl,rfl⟩
  go_wp2
  go_ret
  exact ⟨rfl,⟨bc,bl,HM.out⟩,Touch.refl _ _⟩
 ·rw [hc] at HH
  have HH:=Lib.hid HH
  obtain ⟨hi0,hi1⟩:=hasL_iff.1 hc
  obtain ⟨k,rfl⟩:=Int.eq_ofNat_of_zero_le hi0
  have hk:k < s.L:=by omega
  have HT:=Lib.hid hm.tick
  have HT2:=Lib.hid (hm.tick.putL k to hto)
  obtain ⟨hk1,hk2⟩:=hm.tick.l_at (k:=k) hk
  obtain ⟨g0,g1,g2,g3⟩:=hm.tick.at_
  have hb1:=hm.b1
  have hb2:=hm.b2
  have hc1:=hm.l1
  have hc2:=hm.l2
  have hlb:=hm.lb
  have ht0:=hm.t0
  have hhk:=hm.hh k
  change World.cell? _ ⟨b,1,none⟩=some (.slice (some ⟨bl,0,none⟩) s.L s.L) at g1
  change World.cell? _ ⟨bl,k,none⟩=some (.int .i64 (s.h k)) at hk1
  by_cases hq:s.h k=fr
  ·have e1:handB s (k:Int) fr=true:=by simp [handB,hc,hq]
   have e2:handS s (k:Int) fr to=putL (tickS s) k to:=by simp [handS,hc,hq]
   rw [e1,e2]
   have hne:(s.h k != fr)=false:=by simp [hq]
   have HQ:=Lib.hid hq
   clear hc hm g0 g2 g3 hq e1 e2
   go_enter Tryz.func55,Tryz.ntmps55
   go_wp2_with fail
   refine (HH.out).mono ?_
   rintro e w1 ⟨rfl,rfl⟩
   go_wp2
   go_ret
   exact ⟨rfl,⟨bc,bl,HT2.out⟩,((Touch.refl _ _).setCell hb1 hb2 _).setCell hc1 hc2 _⟩
  ·have e1:handB s (k:Int) fr=false:=by simp [handB,hc,hq]
   have e2:handS s (k:Int) fr to=tickS s:=by simp [handS,hc,hq]
   rw [e1,e2]
   have hne:(s.h k != fr)=true:=by simp [hq]
   clear hc hm g0 g2 g3 hq hk2 e1 e2
   go_enter Tryz.func55,Tryz.ntmps55
   go_wp2_with fail
   refine (HH.out).mono ?_
   rintro e w1 ⟨rfl,rfl⟩
   go_wp2
   go_ret
   exact ⟨rfl,⟨bc,bl,HT.out⟩,(Touch.refl _ _).setCell hb1 hb2 _⟩
theorem mem_Take (l who:Int) {w:World} {lo b:Nat} {s:MemS} (hm:MemAt w 112 lo b s) (ht:s.t≤4611686018427387904) :
  Calls Tryz.prog 19 #[.pointer (some ⟨b,0,none⟩),.int .i64 l,.int .i64 who] w (MemDid 112 lo b (takeS s l who) (.bool (takeB s l who)) w):=by
 by_cases hw:0≤who
 ·have HH:=mem_hand l (-1) (who) (by omega) hm ht
  have e1:handB s l (-1)=takeB s l who:=by simp [handB,takeB,okWho,hw]
  have e2:handS s l (-1) (who)=takeS s l who:=by simp [handS,takeS,okWho,hw]
  rw [e1,e2] at HH
  have HH:=Lib.hid HH
  have hd:decide (0≤who)=true:=by simpa using hw
  clear e1 e2 ht
  go_enter Tryz.func19,Tryz.ntmps19
  go_wp2_with fail
  refine (HH.out).mono ?_
  rintro e w1 ⟨rfl,hm1,ht1⟩
  have HM1:=Lib.hid hm1
  have HT1:=Lib.hid ht1
  clear hm1 ht1
  go_wp2
  go_ret
  exact ⟨rfl,HM1.out,HT1.out⟩
 ·have e1:takeB s l who=false:=by simp [takeB,okWho,hw]
  have e2:takeS s l who=s:=by simp [takeS,okWho,hw]
  rw [e1,e2]
  have hd:decide (0≤who)=false:=by simpa using hw
  have HM:=Lib.hid hm
  clear e1 e2 ht hm
  go_enter Tryz.func19,Tryz.ntmps19
  go_wp2
  go_ret
  exact ⟨rfl,HM.out,Touch.refl _ _⟩
theorem mem_Free (l who:Int) {w:World} {lo b:Nat} {s:MemS} (hm:MemAt w 112 lo b s) (ht:s.t≤4611686018427387904) :
  Calls Tryz.prog 32 #[.pointer (some ⟨b,0,none⟩),.int .i64 l,.int .i64 who] w (MemDid 112 lo b (freeS s l who) (.bool (freeB s l who)) w):=by
 by_cases hw:0≤who
 ·have HH:=mem_hand l (who) (-1) (by omega) hm ht
  have e1:handB s l (who)=freeB s l who:=by simp [handB,freeB,okWho,hw]
  have e2:handS s l (who) (-1)=freeS s l who:=by simp [handS,freeS,okWho,hw]
  rw [e1,e2] at HH
  have HH:=Lib.hid HH
  have hd:decide (0≤who)=true:=by simpa using hw
  clear e1 e2 ht
  go_enter Tryz.func32,Tryz.ntmps32
  go_wp2_with fail
  refine (HH.out).mono ?_
  rintro e w1 ⟨rfl,hm1,ht1⟩
  have HM1:=Lib.hid hm1
  have HT1:=Lib.hid ht1
  clear hm1 ht1
  go_wp2
  go_ret
  exact ⟨rfl,HM1.out,HT1.out⟩
 ·have e1:freeB s l who=false:=by simp [freeB,okWho,hw]
  have e2:freeS s l who=s:=by simp [freeS,okWho,hw]
  rw [e1,e2]
  have hd:decide (0≤who)=false:=by simpa using hw
  have HM:=Lib.hid hm
  clear e1 e2 ht hm
  go_enter Tryz.func32,Tryz.ntmps32
  go_wp2
  go_ret
  exact ⟨rfl,HM.out,Touch.refl _ _⟩
end
section
theorem Asc.uniq {m:Nat→Int}:∀ {R S:List Nat},Asc m R→Asc m S→(∀ i,i ∈ R ↔ i ∈ S)→R=S
 | [],[],_,_,_ => rfl
 | [],b :: S,_,_,h => by have:=(h b).2 (by simp); simp at this
 | a :: R,[],_,_,h => by have:=(h a).1 (by simp); simp at this
 | a :: R,b :: S,hR,hS,h => by
  unfold Asc at hR hS
  rw [List.pairwise_cons] at hR hS
  have hab:a=b:=by
   rcases List.mem_cons.1 ((h a).1 (by simp)) with e | e
   ·exact e
   ·rcases List.mem_cons.1 ((h b).2 (by simp)) with e' | e'
    ·exact e'.symm
    ·have h1:=hR.1 b e'
     have h2:=hS.1 a e
     omega
  subst hab
  have hn1:a ∉ R:=fun e => by have:=hR.1 a e; omega
  have hn2:a ∉ S:=fun e => by have:=hS.1 a e; omega
  have:=Asc.uniq (R:=R) (S:=S) hR.2 hS.2 fun i => by
   constructor
   ·intro hi
    rcases List.mem_cons.1 ((h i).1 (List.mem_cons_of_mem _ hi)) with e | e
    ·rw [e] at hi; exact absurd hi hn1
    ·exact e
   ·intro hi
    rcases List.mem_cons.1 ((h i).2 (List.mem_cons_of_mem _ hi)) with e | e
    ·rw [e] at hi; exact absurd hi hn2
    ·exact e
  rw [this]
theorem Asc.congr {m m':Nat→Int} {R:List Nat} (h:Asc m R) (hm:∀ a ∈ R,m' a=m a):Asc m' R:=by
 unfold Asc at *
 exact h.imp_of_mem fun {a b} ha hb hab => by rw [hm a ha,hm b hb]; exact hab
structure Fate where
 puts:Bool
 v:Int
 ok:Bool
 num:Int
def qNext (n:Nat) (q:List Int) (f:Fate):List Int:=if f.puts then (if q.length < n then q ++ [f.v] else q) else q.tail
def qTold (n:Nat) (q:List Int) (f:Fate):Prop:=if f.puts then f.ok=decide (q.length < n)∧(f.ok=true→f.num=f.v) else f.ok=(!q.isEmpty)∧(f.ok=true→f.num=q.headD 0)
def Played (n:Nat) (F:Nat→Fate):List Nat→List Int→List Int→Prop
 | [],q,q' => q'=q
 | j :: r,q,q' => qTold n q (F j)∧Played n F r (qNext n q (F j)) q'
theorem Played.congr {n:Nat} {F F':Nat→Fate}:∀ {R:List Nat} {q q':List Int},Played n F R q q'→(∀ j ∈ R,F' j=F j)→Played n F' R q q'
 | [],q,q',h,_ => h
 | i :: r,q,q',h,hf => by
  have e:=hf i (by simp)
  exact ⟨by rw [e]; exact h.1,by rw [e]; exact Played.congr h.2 fun j hj => hf j (List.mem_cons_of_mem _ hj)⟩
theorem Played.split {n:Nat} {F:Nat→Fate} {R:List Nat} {q q':List Int} (h:Played n F R q q'):∀ k,k≤R.length→∃ qk,Played n F (R.take k) q qk∧Played n F (R.drop k) qk q':=by
 induction R generalizing q with
 | nil => intro k hk; exact ⟨q,by rw [List.take_nil]; rfl,by rw [List.drop_nil]; exact h⟩
 | cons i r ih =>
  intro k hk
  cases k with
  | zero => exact ⟨q,rfl,h⟩
  | succ k =>
   obtain ⟨qk,h1,h2⟩:=ih h.2 k (by simpa using hk)
   exact ⟨qk,⟨h.1,h1⟩,h2⟩
end
end Go.Proofs.YthloabdfkakehaaGreat
