/-
  Words and contracts that a statement's proof rests on (MemA, PlainRg, KeyR, Store, OpenFl, MemC, PlainTn, OpenWh). No statement is proved here.
-/
import Derived.Laws.Bits64
import Derived.Deep.MidRow
import Derived.WalkKit
import Derived.Test.YthloabdfkakehaaGreatKeep
import Derived.Test.YthloabdfkakehaaGreatKeyB
import Derived.Test.YthloabdfkakehaaGreatOpen
import Derived.Test.YthloabdfkakehaaGreatOrd
set_option linter.unusedVariables false
set_option linter.unusedSimpArgs false
namespace Go.Proofs.YthloabdfkakehaaGreat
section
open Go.RowKit
structure MemS where
 C:Nat
 L:Nat
 c:Nat→Int
 h:Nat→Int
 t:Int
def hasC (s:MemS) (i:Int):Bool:=decide (0≤i) && decide (i < s.C)
def hasL (s:MemS) (i:Int):Bool:=decide (0≤i) && decide (i < s.L)
def peekS (s:MemS) (i:Int):Int:=if hasC s i=true then s.c i.toNat else 0
def holdS (s:MemS) (l:Int):Int:=if hasL s l=true then s.h l.toNat else -1
def tickS (s:MemS):MemS:={ s with t:=s.t + 1 }
def loadS (s:MemS) (i:Int):MemS:=if hasC s i=true then tickS s else s
def putC (s:MemS) (k:Nat) (v:Int):MemS:={ s with c:=fun j => if j=k then v else s.c j }
def putL (s:MemS) (k:Nat) (v:Int):MemS:={ s with h:=fun j => if j=k then v else s.h j }
def storeS (s:MemS) (i v:Int):MemS:=if hasC s i=true then putC (tickS s) i.toNat v else s
def okWho (s:MemS) (l who:Int):Bool:=hasL s l && decide (0≤who)
def takeB (s:MemS) (l who:Int):Bool:=okWho s l who && decide (s.h l.toNat=-1)
def takeS (s:MemS) (l who:Int):MemS:=if okWho s l who=true then (if s.h l.toNat=-1 then putL (tickS s) l.toNat who else tickS s) else s
def freeB (s:MemS) (l who:Int):Bool:=okWho s l who && decide (s.h l.toNat=who)
def freeS (s:MemS) (l who:Int):MemS:=if okWho s l who=true then (if s.h l.toNat=who then putL (tickS s) l.toNat (-1) else tickS s) else s
theorem hasC_iff {s:MemS} {i:Int}:hasC s i=true ↔ 0≤i∧i < s.C:=by simp [hasC]
theorem hasL_iff {s:MemS} {i:Int}:hasL s i=true ↔ 0≤i∧i < s.L:=by simp [hasL]
def memF (bc bl:Nat) (s:MemS):Nat→Value
 | 0 => .slice (some ⟨bc,0,none⟩) s.C s.C
 | 1 => .slice (some ⟨bl,0,none⟩) s.L s.L
 | _ => .int .i64 s.t
structure MemIn (w:World) (T:TypeId) (lo b bc bl:Nat) (s:MemS):Prop where
 b1:lo≤b
 b2:b < lo + 3
 c1:lo≤bc
 c2:bc < lo + 3
 l1:lo≤bl
 l2:bl < lo + 3
 n1:b ≠ bc
 n2:b ≠ bl
 n3:bc ≠ bl
 own:w.rowIs b T 3 (memF bc bl s)
 cells:w.rowIs bc 38 s.C (fun j => .int .u64 (s.c j))
 locks:w.rowIs bl 3 s.L (fun j => .int .i64 (s.h j))
 t0:0≤s.t
 hh:∀ l,-1≤s.h l
 cb:s.C≤1048576
 lb:s.L≤128
def MemAt (w:World) (T:TypeId) (lo b:Nat) (s:MemS):Prop:=∃ bc bl,MemIn w T lo b bc bl s
structure Touch (lo:Nat) (w w':World):Prop where
 os:w'.os=w.os
 tape:w'.tape=w.tape
 output:w'.output=w.output
 size:w.heap.size≤w'.heap.size
 block:∀ k,k < w.heap.size→(k < lo ∨ lo + 3≤k)→w'.heap[k]?=w.heap[k]?
theorem Touch.refl (lo:Nat) (w:World):Touch lo w w:=⟨rfl,rfl,rfl,Nat.le_refl _,fun _ _ _ => rfl⟩
theorem Touch.trans {lo:Nat} {a b c:World} (h:Touch lo a b) (k:Touch lo b c):Touch lo a c :=
 ⟨k.os.trans h.os,k.tape.trans h.tape,k.output.trans h.output,Nat.le_trans h.size k.size,fun i hi hn => (k.block i (Nat.lt_of_lt_of_le hi h.size) hn).trans (h.block i hi hn)⟩
theorem Touch.of_below {lo:Nat} {w w':World} (h:Below w.heap.size w w'):Touch lo w w':=⟨h.os,h.tape,h.output,h.size,fun k hk _ => h.block k hk⟩
theorem Touch.setCell {lo:Nat} {a w:World} (h:Touch lo a w) {p:Addr} (h1:lo≤p.block) (h2:p.block < lo + 3) (u:Value):Touch lo a (w.setCell p u) :=
 h.trans ⟨rfl,rfl,rfl,by simp [World.setCell],fun k hk hn => Below.heap_setCell _ _ _ _ (by omega)⟩
theorem Touch.alloc {lo:Nat} {a w:World} (h:Touch lo a w) (o:Obj):Touch lo a (w.alloc o):=h.trans (Touch.of_below ((Below.refl _ _).alloc (Nat.le_refl _) o))
theorem Touch.drewN {lo:Nat} {a w:World} (h:Touch lo a w) (n:Nat):Touch lo a (w.drewN n):=h.trans (Touch.of_below (below_drewN (Below.refl _ _) n))
theorem Touch.below {B lo:Nat} {W w w':World} (h:Touch lo w w') (hb:Below B W w) (hB:B≤lo) (hB2:B≤w.heap.size):Below B W w' :=
 hb.trans ⟨h.os,h.tape,h.output,h.size,fun k hk => h.block k (by omega) (Or.inl (by omega))⟩
theorem MemIn.of_blocks {w w':World} {T:TypeId} {lo b bc bl:Nat} {s:MemS} (h:MemIn w T lo b bc bl s) (hb:∀ k,lo≤k→k < lo + 3→k < w.heap.size→w'.heap[k]?=w.heap[k]?):MemIn w' T lo b bc bl s :=
 { h with
  own:=h.own.of_block (hb _ h.b1 h.b2 h.own.lt)
  cells:=h.cells.of_block (hb _ h.c1 h.c2 h.cells.lt)
  locks:=h.locks.of_block (hb _ h.l1 h.l2 h.locks.lt) }
theorem MemAt.below {w w':World} {T:TypeId} {lo b:Nat} {s:MemS} (h:MemAt w T lo b s) (hb:Below w.heap.size w w'):MemAt w' T lo b s:=by
 obtain ⟨bc,bl,h⟩:=h
 exact ⟨bc,bl,h.of_blocks fun k _ _ hk => hb.block k hk⟩
theorem MemAt.touch {w w':World} {T:TypeId} {lo lo' b:Nat} {s:MemS} (h:MemAt w T lo b s) (ht:Touch lo' w w') (hd:lo + 3≤lo' ∨ lo' + 3≤lo):MemAt w' T lo b s:=by
 obtain ⟨bc,bl,h⟩:=h
 exact ⟨bc,bl,h.of_blocks fun k h1 h2 hk => ht.block k hk (by omega)⟩
theorem MemAt.drewN {w:World} {T:TypeId} {lo b:Nat} {s:MemS} (h:MemAt w T lo b s) (n:Nat):MemAt (w.drewN n) T lo b s:=h.below (below_drewN (Below.refl _ _) n)
theorem MemAt.alloc {w:World} {T:TypeId} {lo b:Nat} {s:MemS} (h:MemAt w T lo b s) (o:Obj):MemAt (w.alloc o) T lo b s:=h.below ((Below.refl _ _).alloc (Nat.le_refl _) o)
theorem MemIn.tick {w:World} {T:TypeId} {lo b bc bl:Nat} {s:MemS} (h:MemIn w T lo b bc bl s):MemIn (w.setCell ⟨b,2,none⟩ (.int .i64 (s.t + 1))) T lo b bc bl (tickS s) :=
 { h with
  own:=(h.own.set 2 _).congr fun i hi => by
   match i,hi with
   | 0,_ => rfl
   | 1,_ => rfl
   | 2,_ => rfl
  cells:=h.cells.setOther (Ne.symm h.n1) _
  locks:=h.locks.setOther (Ne.symm h.n2) _
  t0:=by have:=h.t0; show 0≤s.t + 1; omega }
theorem MemIn.putC {w:World} {T:TypeId} {lo b bc bl:Nat} {s:MemS} (h:MemIn w T lo b bc bl s) (k:Nat) (v:Int):MemIn (w.setCell ⟨bc,k,none⟩ (.int .u64 v)) T lo b bc bl (putC s k v) :=
 { h with
  own:=(h.own.setOther h.n1 _).congr fun i hi => by
   match i,hi with
   | 0,_ => rfl
   | 1,_ => rfl
   | 2,_ => rfl
  cells:=(h.cells.set k _).congr fun i hi => by show (if i=k then _ else _)=Value.int .u64 (if i=k then _ else _); split <;> rfl
  locks:=h.locks.setOther (Ne.symm h.n3) _ }
theorem MemIn.putL {w:World} {T:TypeId} {lo b bc bl:Nat} {s:MemS} (h:MemIn w T lo b bc bl s) (k:Nat) (v:Int) (hv:-1≤v):MemIn (w.setCell ⟨bl,k,none⟩ (.int .i64 v)) T lo b bc bl (putL s k v) :=
 { h with
  own:=(h.own.setOther h.n2 _).congr fun i hi => by
   match i,hi with
   | 0,_ => rfl
   | 1,_ => rfl
   | 2,_ => rfl
  cells:=h.cells.setOther h.n3 _
  locks:=(h.locks.set k _).congr fun i hi => by show (if i=k then _ else _)=Value.int .i64 (if i=k then _ else _); split <;> rfl
  hh:=fun l => by show -1≤(if l=k then v else s.h l); have:=h.hh l; split <;> omega }
theorem MemIn.at_ {w:World} {T:TypeId} {lo b bc bl:Nat} {s:MemS} (h:MemIn w T lo b bc bl s) :
  w.cell? ⟨b,0,none⟩=some (.slice (some ⟨bc,0,none⟩) s.C s.C)∧w.cell? ⟨b,1,none⟩=some (.slice (some ⟨bl,0,none⟩) s.L s.L)∧w.cell? ⟨b,2,none⟩=some (.int .i64 s.t)∧w.frozen? ⟨b,2,none⟩=false :=
 ⟨h.own.cell (by omega),h.own.cell (by omega),h.own.cell (by omega),h.own.frozen 2⟩
theorem MemIn.c_at {w:World} {T:TypeId} {lo b bc bl:Nat} {s:MemS} (h:MemIn w T lo b bc bl s) {k:Nat} (hk:k < s.C):w.cell? ⟨bc,k,none⟩=some (.int .u64 (s.c k))∧w.frozen? ⟨bc,k,none⟩=false:=⟨h.cells.cell hk,h.cells.frozen k⟩
theorem MemIn.l_at {w:World} {T:TypeId} {lo b bc bl:Nat} {s:MemS} (h:MemIn w T lo b bc bl s) {k:Nat} (hk:k < s.L):w.cell? ⟨bl,k,none⟩=some (.int .i64 (s.h k))∧w.frozen? ⟨bl,k,none⟩=false:=⟨h.locks.cell hk,h.locks.frozen k⟩
def MemDid (T:TypeId) (lo b:Nat) (s':MemS) (v:Value) (w:World) (e:Ending) (w':World):Prop:=e=.returned v∧MemAt w' T lo b s'∧Touch lo w w'
end
section
structure RgS where
 m:MemS
 ba:Nat
 sz:Nat
 st:Int
 pu:Bool
 po:Bool
def tickR (g:RgS):RgS:={ g with m:=tickS g.m }
def putR (g:RgS) (k:Nat) (v:Int):RgS:={ g with m:=putC (tickS g.m) k v }
structure Fits (g:RgS):Prop where
 cells:g.ba + 2 + g.sz≤g.m.C
 mem:g.m.C≤1048576
 one:1≤g.sz
 most:g.sz≤64
structure RngQ (g:RgS) (p t:Nat) (q:List Int):Prop where
 fits:Fits g
 st0:0≤g.st
 st1:g.st < 18446744073709551616
 cp:g.m.c g.ba=(g.st + p) % 18446744073709551616
 ct:g.m.c (g.ba + 1)=(g.st + t) % 18446744073709551616
 tp:t≤p
 len:q.length=p - t
 room:p - t≤g.sz
 few:p≤1000000
 num:∀ i (h:i < q.length),g.m.c (g.ba + 2 + (t + i) % g.sz)=q[i]
theorem RngQ.tick {g:RgS} {p t:Nat} {q:List Int} (h:RngQ g p t q):RngQ (tickR g) p t q :=
 ⟨⟨h.fits.cells,h.fits.mem,h.fits.one,h.fits.most⟩,h.st0,h.st1,h.cp,h.ct,h.tp,h.len,h.room,h.few,h.num⟩
theorem mod_ne {a b n:Nat} (hab:a < b) (h:b < a + n):a % n ≠ b % n:=by
 intro e
 have h1:=Nat.div_add_mod a n
 have h2:=Nat.div_add_mod b n
 rw [e] at h1
 have h3:n * (a / n) < n * (b / n):=by omega
 have h4:a / n < b / n:=Nat.lt_of_mul_lt_mul_left h3
 have h5:n * (a / n + 1)≤n * (b / n):=Nat.mul_le_mul_left _ h4
 rw [Nat.mul_add] at h5
 omega
theorem RngQ.put {g:RgS} {p t:Nat} {q:List Int} (h:RngQ g p t q) (hr:p - t < g.sz) (v:Int):RngQ (putR g (g.ba + 2 + p % g.sz) v) p t q:=by
 refine ⟨⟨h.fits.cells,h.fits.mem,h.fits.one,h.fits.most⟩,h.st0,h.st1,?_,?_,h.tp,h.len,h.room,h.few,fun i hi => ?_⟩
 ·show (if g.ba=_ then _ else _)=_
  rw [if_neg (by omega)]; exact h.cp
 ·show (if g.ba + 1=_ then _ else _)=_
  rw [if_neg (by omega)]; exact h.ct
 ·show (if g.ba + 2 + (t + i) % g.sz=_ then _ else _)=_
  have:=h.len
  have:=h.tp
  rw [if_neg (by have:=mod_ne (a:=t + i) (b:=p) (n:=g.sz) (by omega) (by omega); omega)]
  exact h.num i hi
theorem RngQ.push {g:RgS} {p t:Nat} {q:List Int} (h:RngQ g p t q) (hr:p - t < g.sz) (hf:p + 1≤1000000) {v:Int} (hv:g.m.c (g.ba + 2 + p % g.sz)=v) :
  RngQ (putR g g.ba (((g.st + p) % 18446744073709551616 + 1) % 18446744073709551616)) (p + 1) t (q ++ [v]):=by
 have hl:=h.len
 have htp:=h.tp
 refine ⟨⟨h.fits.cells,h.fits.mem,h.fits.one,h.fits.most⟩,h.st0,h.st1,?_,?_,by omega,by simp; omega,by show p + 1 - t≤g.sz; omega,hf,fun i hi => ?_⟩
 ·show (if g.ba=g.ba then _ else _)=(g.st + ((p + 1:Nat):Int)) % _
  rw [if_pos rfl]; omega
 ·show (if g.ba + 1=g.ba then _ else _)=_
  rw [if_neg (by omega)]; exact h.ct
 ·show (if g.ba + 2 + (t + i) % g.sz=g.ba then _ else _)=_
  rw [if_neg (by omega)]
  by_cases hi2:i < q.length
  ·rw [List.getElem_append_left hi2]; exact h.num i hi2
  ·have:i=p - t:=by simp at hi; omega
   rw [List.getElem_append_right (by omega)]
   simp
   rw [show t + i=p by omega]; exact hv
end
section
open Go.RowKit
end
section
open Go.RowKit
theorem heap_setCell_far (w:World) (p:Addr) (v:Value) {k:Nat} (h:k ≠ p.block):(w.setCell p v).heap[k]?=w.heap[k]?:=by
 unfold World.setCell
 simp only [Array.getElem?_modify]
 rw [if_neg (fun e => h e.symm)]
theorem heap_setCells_far (b:Nat):∀ (vs:List Value) (o:Nat) (w:World) {k:Nat},k ≠ b→(w.setCells b o vs).heap[k]?=w.heap[k]?
 | [],_,_,_,_ => rfl
 | v :: r,o,w,_,h => (heap_setCells_far b r (o + 1) _ h).trans (heap_setCell_far w ⟨b,o,none⟩ v h)
theorem below_setCells {B b:Nat} (hB:B≤b):∀ (vs:List Value) (o:Nat) (w0 w:World),Below B w0 w→Below B w0 (w.setCells b o vs)
 | [],_,_,_,h => h
 | v :: r,o,w0,_,h => below_setCells hB r (o + 1) w0 _ (h.setCell hB v)
theorem size_setCells (b:Nat):∀ (vs:List Value) (o:Nat) (w:World),(w.setCells b o vs).heap.size=w.heap.size
 | [],_,_ => rfl
 | v :: r,o,w => (size_setCells b r (o + 1) _).trans (by simp)
structure Stored (w:World) (b o:Nat) (vs:List Value) (w':World):Prop where
 cells:∀ j v,vs[j]?=some v→w'.cell? ⟨b,o + j,none⟩=some v
 far:∀ k,k ≠ b→w'.heap[k]?=w.heap[k]?
 size:w'.heap.size=w.heap.size
 below:∀ B,B≤b→Below B w w'
 marks:∀ p,w'.frozen? p=w.frozen? p
theorem Stored.mk_ (w:World) (b o:Nat) (vs:List Value) (ht:w.there b o vs.length):Stored w b o vs (w.setCells b o vs) :=
 ⟨World.rangeAt_setCells_same w b o vs ht,fun _ h => heap_setCells_far b vs o w h,size_setCells b vs o w,fun _ hB => below_setCells hB vs o w w (Below.refl _ _),fun p => World.frozen?_setCells b vs o w p⟩
section
variable {P:Program}
theorem step_store {ops:Array Oper} {op:Oper} {a:Act} {w:World} {K:Act→World→Prop} {Q:Exit→Act→World→Prop} {E:Prop} (hgd:op.guard=none) (ty:TypeId) (x y:Operand) (ho:op.op=.store ty x y)
  (b o:Nat) (cells:Array Value) (hx:a.eval x=.pointer (some ⟨b,o,none⟩)) (hy:a.eval y=.agg cells)
  (ht:w.there b o cells.size) (hi:(P.info? ty).map (·.size)=some cells.size) (h1:cells.all (·.oneCell')=true)
  (h:∀ w',Stored w b o cells.toList w'→K (a.put op.dst undef) w'):if Region.wanted op (yielded ops a.tmps)=true then Oper.wp P op a w K Q else E:=by
 have hw:Region.wanted op (yielded ops a.tmps)=true:=by simp [Region.wanted,hgd]
 rw [if_pos hw]
 exact wp_store_mid ty x y ho b o cells hx hy ht hi h1 (h _ (Stored.mk_ w b o cells.toList (by simpa using ht)))
end
end
section
open Go.ChangeShapes Go.WideShapes Go.RowKit Go.Deep
section
variable {H:Type} {enc:TypeId × Value→H} {P:Program} {w:World} {base:Nat} {spare:Nat→Bool} {held:Bool}
def leavesF (P:Program) (rec:TypeId→Option (List TypeId)):List Field→Nat→Option (List TypeId)
 | [],_ => some []
 | f :: fs,off => if f.offset=off then
   match rec f.type with
   | some a => if P.cellsOf f.type=a.length then
     match leavesF P rec fs (off + a.length) with
     | some b => some (a ++ b)
     | none => none
    else none
   | none => none
  else none
def leaves (P:Program):Nat→TypeId→Option (List TypeId)
 | 0,_ => none
 | n + 1,t => match P.underlying t with
  | some (.struct fs) => match leavesF P (leaves P n) fs.toList 0 with
   | some l => if P.cellsOf t=l.length then some l else none
   | none => none
  | _ => if P.cellsOf t=1 then some [t] else none
theorem leavesF_held (rec:TypeId→Option (List TypeId))
  (hrec:∀ t cs x fuel ts,rec t=some ts→cs.length=P.cellsOf t→DataW.trod enc P w base spare held fuel t cs=some x→∀ (j:Nat) tj,ts[j]?=some tj→∃ u,cs[j]?=some u∧Holds1 enc P w base spare held tj u) :
  ∀ (fs:List Field) (off:Nat) (ts:List TypeId) (cs:List Value),leavesF P rec fs off=some ts→off + ts.length≤cs.length →
   (∀ f ∈ fs,∃ fuel x,DataW.trod enc P w base spare held fuel f.type ((cs.drop f.offset).take (P.cellsOf f.type))=some x) →
   ∀ (j:Nat) tj,ts[j]?=some tj→∃ u,cs[off + j]?=some u∧Holds1 enc P w base spare held tj u
 | [],off,ts,cs,h,_,_ => by
  intro j tj hj
  simp [leavesF] at h
  subst h
  simp at hj
 | f :: fs,off,ts,cs,h,hlen,hf => by
  intro j tj hj
  unfold leavesF at h
  split at h
  ·rename_i ho
   split at h
   ·rename_i a ha
    split at h
    ·rename_i hc
     split at h
     ·rename_i b hb
      injection h with h
      subst h
      rw [List.length_append] at hlen
      obtain ⟨fuel,x,hx⟩:=hf f (by simp)
      rw [ho] at hx
      have hcl:((cs.drop off).take (P.cellsOf f.type)).length=P.cellsOf f.type:=by
       rw [List.length_take,List.length_drop]; omega
      rcases Nat.lt_or_ge j a.length with h1 | h1
      ·rw [List.getElem?_append_left h1] at hj
       obtain ⟨u,hu,hh⟩:=hrec f.type _ _ _ _ ha hcl hx j tj hj
       refine ⟨u,?_,hh⟩
       rw [List.getElem?_take,if_pos (by omega),List.getElem?_drop] at hu
       exact hu
      ·rw [List.getElem?_append_right h1] at hj
       obtain ⟨u,hu,hh⟩:=leavesF_held rec hrec fs (off + a.length) b cs hb (by omega) (fun g hg => hf g (by simp [hg])) (j - a.length) tj hj
       refine ⟨u,?_,hh⟩
       rw [← hu]
       congr 1
       omega
     ·cases h
    ·cases h
   ·cases h
  ·cases h
theorem leaves_held:∀ (n:Nat) (t:TypeId) (cs:List Value) (x:DataW H × List MemPlace) (fuel:Nat) (ts:List TypeId),leaves P n t=some ts→cs.length=P.cellsOf t→DataW.trod enc P w base spare held fuel t cs=some x →
  ∀ (j:Nat) tj,ts[j]?=some tj→∃ u,cs[j]?=some u∧Holds1 enc P w base spare held tj u
 | 0,t,cs,x,fuel,ts,h,_,_ => by simp [leaves] at h
 | n + 1,t,cs,x,fuel,ts,h,hcs,hx => by
  intro j tj hj
  unfold leaves at h
  split at h
  ·rename_i fs hs
   split at h
   ·rename_i l hl
    split at h
    ·rename_i hc
     injection h with h
     subst h
     obtain ⟨xs,m,_,_,hlen,hxl,hg⟩:=DataW.trod_struct hs hx
     have hf:∀ f ∈ fs.toList,∃ fuel x,DataW.trod enc P w base spare held fuel f.type ((cs.drop f.offset).take (P.cellsOf f.type))=some x:=by
      intro f hf
      obtain ⟨i,hi,rfl⟩:=List.getElem_of_mem hf
      have hi':i < fs.size:=by simpa using hi
      have:=hg i fs[i] (Array.getElem?_eq_getElem hi')
      rw [List.getElem?_eq_getElem (show i < xs.length by omega)] at this
      exact ⟨m,_,by simpa using this⟩
     have:=leavesF_held (leaves P n) (fun t cs x fuel ts a b c => leaves_held n t cs x fuel ts a b c) fs.toList 0 l cs hl (by omega) hf j tj hj
     simpa using this
    ·cases h
   ·cases h
  ·split at h
   ·rename_i hc
    injection h with h
    subst h
    rw [hc] at hcs
    match cs,hcs with
    | [u],_ =>
     match j,hj with
     | 0,hj =>
      simp at hj
      subst hj
      exact ⟨u,rfl,fuel,x,hx⟩
   ·cases h
theorem open_flat {r:Reach} {b0:Nat} {t:TypeId} {fs:Array Field} {ts:List TypeId} {v:Value} {d:DataW H} {p:List MemPlace} (hs:P.underlying t=some (.struct fs)) (hl:leaves P 8 t=some ts) (hn:P.cellsOf t=ts.length)
  (hv:Value.okWide P w r b0 t v) (h:DataW.Trod enc P w base spare held t v d p) :
  ∃ l:List Value,v=.agg l.toArray∧l.length=ts.length∧∀ (j:Nat) tj,ts[j]?=some tj→∃ u,l[j]?=some u∧Holds1 enc P w base spare held tj u:=by
 obtain ⟨cs,rfl,hsz⟩:=okWide_struct hs hv
 obtain ⟨fuel,hf⟩:=h
 obtain ⟨_,_,_,_,hlen,_⟩:=DataW.trod_struct hs hf
 obtain ⟨l⟩:=cs
 have hll:l.length=P.cellsOf t:=by simpa [Value.cells] using hlen
 have:=leaves_held 8 t _ _ _ _ hl hlen hf
 exact ⟨l,rfl,by omega,by simpa [Value.cells] using this⟩
theorem open_flats {r:Reach} {b0:Nat} {t e:TypeId} {ts:List TypeId} {v:Value} {d:DataW H} {p:List MemPlace} (ht:P.underlying t=some (.slice e)) (hl:leaves P 8 e=some ts) (hC:P.cellsOf e=ts.length) (h0:0 < ts.length)
  (hv:Value.okWide P w r b0 t v) (h:DataW.Trod enc P w 0 (fun _ => true) held t v d p) :
  ∃ (A:Option Addr) (n cap:Nat),v=.slice A n cap∧n≤cap∧cap≤maxLen∧(0 < n→∃ b off,A=some ⟨b,off,none⟩∧b < w.heap.size ∧
   ∀ i,i < n→∀ (j:Nat) tj,ts[j]?=some tj→∃ u,w.cell? ⟨b,off + i * ts.length + j,none⟩=some u∧Holds1 enc P w 0 (fun _ => true) held tj u):=by
 obtain ⟨A,n,cap,rfl⟩:=okWide_slice ht hv
 obtain ⟨fuel,hf⟩:=h
 rcases open_slice ht hf with ⟨hcs,_⟩ | ⟨a,len,c,m,k,D,Pl,hcs,_,hl1,hm,hmm,_,hi⟩
 ·simp [Value.cells] at hcs
  obtain ⟨rfl,rfl,rfl⟩:=hcs
  exact ⟨none,0,0,rfl,Nat.le_refl _,by simp [maxLen],fun h => absurd h (by omega)⟩
 ·simp [Value.cells] at hcs
  obtain ⟨rfl,rfl,rfl⟩:=hcs
  simp only [if_true] at hmm
  subst hmm
  refine ⟨some a,n,m,rfl,hl1,hm,fun hn => ?_⟩
  have hat:∀ i,i < m→∀ (j:Nat) tj,ts[j]?=some tj→∃ u,w.cell? (a.add (i * ts.length + j))=some u∧Holds1 enc P w 0 (fun _ => true) held tj u:=by
   intro i him j tj hj
   obtain ⟨cs',hc,ht'⟩:=hi i him
   rw [hC] at hc
   obtain ⟨_,hcl,hcat⟩:=World.cells?_some hc
   obtain ⟨u,hu,hh⟩:=leaves_held 8 e _ _ _ _ hl (by omega) ht' j tj hj
   have hjl:j < ts.length:=(List.getElem?_eq_some_iff.1 hj).1
   refine ⟨u,?_,hh⟩
   rw [← Go.Deep.add_add,hcat j hjl,hu]
  obtain ⟨u0,hu0,_⟩:=hat 0 (by omega) 0 _ (List.getElem?_eq_getElem h0)
  obtain ⟨b,off,spot⟩:=a
  have hspot:spot=none:=by simpa [Addr.add] using World.cell?_spot hu0
  subst hspot
  refine ⟨b,off,rfl,World.block_lt_of_cell? w _ (by simpa [Addr.add] using hu0),fun i hi2 j tj hj => ?_⟩
  obtain ⟨u,hu,hh⟩:=hat i (by omega) j tj hj
  have hadd:(⟨b,off,none⟩:Addr).add (i * ts.length + j)=⟨b,off + i * ts.length + j,none⟩:=by
   unfold Addr.add; split <;> simp_all [Nat.add_assoc]
  rw [hadd] at hu
  exact ⟨u,hu,hh⟩
end
end
section
open Go.RowKit
end
section
theorem Asc.uniq {m:Nat→Int}:∀ {R S:List Nat},Asc m R→Asc m S→(∀ i,i ∈ R ↔ i ∈ S)→R=S
 | [],[],_,_,_ => rfl
 | [],b :: S,_,_,h => by have:=(h b).2 (by simp); simp at this
 | a :: R,[],_,_,h => by have:=(h a).1 (by simp); simp at this
 | a :: R,b :: S,hR,hS,h => by
  unfold Asc at hR hS
  rw [List.pairwise_cons] at hR hS
  have hab:a=b:=by
   rcases List.mem_cons.1 ((h a).1 (by simp)) with e | e
   ·exact e
   ·rcases List.mem_cons.1 ((h b).2 (by simp)) with e' | e'
    ·exact e'.symm
    ·have h1:=hR.1 b e'
     have h2:=hS.1 a e
     omega
  subst hab
  have hn1:a ∉ R:=fun e => by have:=hR.1 a e; omega
  have hn2:a ∉ S:=fun e => by have:=hS.1 a e; omega
  have:=Asc.uniq (R:=R) (S:=S) hR.2 hS.2 fun i => by
   constructor
   ·intro hi
    rcases List.mem_cons.1 ((h i).1 (List.mem_cons_of_mem _ hi)) with e | e
    ·rw [e] at hi; exact absurd hi hn1
    ·exact e
   ·intro hi
    rcases List.mem_cons.1 ((h i).2 (List.mem_cons_of_mem _ hi)) with e | e
    ·rw [e] at hi; exact absurd hi hn2
    ·exact e
  rw [this]
theorem Asc.congr {m m':Nat→Int} {R:List Nat} (h:Asc m R) (hm:∀ a ∈ R,m' a=m a):Asc m' R:=by
 unfold Asc at *
 exact h.imp_of_mem fun {a b} ha hb hab => by rw [hm a ha,hm b hb]; exact hab
structure Fate where
 puts:Bool
 v:Int
 ok:Bool
 num:Int
def qNext (n:Nat) (q:List Int) (f:Fate):List Int:=if f.puts then (if q.length < n then q ++ [f.v] else q) else q.tail
def qTold (n:Nat) (q:List Int) (f:Fate):Prop:=if f.puts then f.ok=decide (q.length < n)∧(f.ok=true→f.num=f.v) else f.ok=(!q.isEmpty)∧(f.ok=true→f.num=q.headD 0)
def Played (n:Nat) (F:Nat→Fate):List Nat→List Int→List Int→Prop
 | [],q,q' => q'=q
 | j :: r,q,q' => qTold n q (F j)∧Played n F r (qNext n q (F j)) q'
theorem Played.congr {n:Nat} {F F':Nat→Fate}:∀ {R:List Nat} {q q':List Int},Played n F R q q'→(∀ j ∈ R,F' j=F j)→Played n F' R q q'
 | [],q,q',h,_ => h
 | i :: r,q,q',h,hf => by
  have e:=hf i (by simp)
  exact ⟨by rw [e]; exact h.1,by rw [e]; exact Played.congr h.2 fun j hj => hf j (List.mem_cons_of_mem _ hj)⟩
theorem Played.split {n:Nat} {F:Nat→Fate} {R:List Nat} {q q':List Int} (h:Played n F R q q'):∀ k,k≤R.length→∃ qk,Played n F (R.take k) q qk∧Played n F (R.drop k) qk q':=by
 induction R generalizing q with
 | nil => intro k hk; exact ⟨q,by rw [List.take_nil]; rfl,by rw [List.drop_nil]; exact h⟩
 | cons i r ih =>
  intro k hk
  cases k with
  | zero => exact ⟨q,rfl,h⟩
  | succ k =>
   obtain ⟨qk,h1,h2⟩:=ih h.2 k (by simpa using hk)
   exact ⟨qk,⟨h.1,h1⟩,h2⟩
end
section
open Go.ChangeShapes Go.WideShapes Go.RowKit Go.Deep
section
variable {H:Type} {enc:TypeId × Value→H} {P:Program} {w:World} {held:Bool} {base:Nat} {spare:Nat→Bool}
theorem open_whole {r:Reach} {b0:Nat} {t t0:TypeId} {fs:Array Field} {v:Value} {d:DataW H} {p:List MemPlace} (hs:P.underlying t=some (.struct fs)) (hl:leaves P 8 t=some [t0,t0,t0,t0]) (hn:P.cellsOf t=4) (h0:P.underlying t0=some (.int .i64))
  (hv:Value.okWide P w r b0 t v) (h:DataW.Trod enc P w base spare held t v d p) :
  ∃ a b c e:Int,v=.agg #[.int .i64 a,.int .i64 b,.int .i64 c,.int .i64 e]:=by
 obtain ⟨l,rfl,hlen,hf⟩:=open_flat hs hl hn hv h
 obtain ⟨u0,e0,g0⟩:=hf 0 t0 rfl
 obtain ⟨u1,e1,g1⟩:=hf 1 t0 rfl
 obtain ⟨u2,e2,g2⟩:=hf 2 t0 rfl
 obtain ⟨u3,e3,g3⟩:=hf 3 t0 rfl
 obtain ⟨a,rfl,_⟩:=g0.i64 h0
 obtain ⟨b,rfl,_⟩:=g1.i64 h0
 obtain ⟨c,rfl,_⟩:=g2.i64 h0
 obtain ⟨e,rfl,_⟩:=g3.i64 h0
 match l,hlen with
 | [x,y,z,q],_ =>
  simp at e0 e1 e2 e3
  subst e0 e1 e2 e3
  exact ⟨a,b,c,e,rfl⟩
end
end
end Go.Proofs.YthloabdfkakehaaGreat
