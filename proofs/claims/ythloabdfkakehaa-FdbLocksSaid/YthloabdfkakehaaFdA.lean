/-
  Words and contracts that a statement's proof rests on (FdA). No statement is proved here.
-/
import Derived.Test.YthloabdfkakehaaPlainRg
import Derived.Test.YthloabdfkakehaaBuH
import Derived.Test.YthloabdfkakehaaBuI
import Derived.Test.YthloabdfkakehaaPlainFh
import Derived.Test.YthloabdfkakehaaFgF
set_option linter.unusedVariables false
set_option linter.unusedSimpArgs false
namespace Go.Proofs.Ythloabdfkakehaa
open Go.RowKit
def fdbF (b:Nat) (F:FcS):Nat→Value
 | 0 => .pointer (some ⟨b,0,none⟩)
 | 1 => .int .i64 (F.ba:Nat)
 | 2 => .int .i64 (F.lk:Nat)
 | 3 => .int .i64 (F.S:Nat)
 | 4 => .int .i64 (F.B:Nat)
 | 5 => .int .i64 (F.n:Nat)
 | _ => .int .i64 (F.tr:Nat)
structure FFit (F:FcS) (C L:Nat):Prop where
 S:1≤F.S∧F.S≤8
 B:1≤F.B∧F.B≤16
 n:1≤F.n∧F.n≤8
 tr:1≤F.tr∧F.tr≤8
 c:F.ba + F.S * F.B * F.W≤C
 l:F.lk + F.S≤L
 C:C≤1048576
 L:L≤128
theorem FFit.SB {F:FcS} {C L:Nat} (h:FFit F C L):1≤F.S * F.B∧F.S * F.B≤128 :=
 ⟨Nat.mul_le_mul h.S.1 h.B.1,Nat.mul_le_mul h.S.2 h.B.2⟩
theorem FFit.W {F:FcS} {C L:Nat} (h:FFit F C L):3≤F.W∧F.W≤17:=by
 have:=h.n
 unfold FcS.W
 omega
theorem FFit.all {F:FcS} {C L:Nat} (h:FFit F C L):F.S * F.B * F.W≤2176:=Nat.mul_le_mul h.SB.2 h.W.2
theorem FFit.cell {F:FcS} {C L H:Nat} (h:FFit F C L) (hH:H < F.S * F.B):F.cell H + F.W≤C:=by
 have h1:=Nat.mul_le_mul_right F.W (show H + 1≤F.S * F.B from hH)
 rw [Nat.add_mul,Nat.one_mul] at h1
 have:=h.c
 unfold FcS.cell
 omega
structure FdbAt (w:World) (lo b fb:Nat) (F:FcS) (m:MemS):Prop where
 mem:MemAt w 82 lo b m
 row:w.rowIs fb 86 7 (fdbF b F)
 out:lo + 3≤fb
 fits:FFit F m.C m.L
def factF (fb:Nat) (F:FcS) (a:FaS) (fv lv wv:Value):Nat→Value
 | 0 => .pointer (some ⟨fb,0,none⟩)
 | 1 => .int .i64 a.who
 | 2 => fv
 | 3 => .int .i64 (a.l0:Nat)
 | 4 => .int .i64 (a.lc:Nat)
 | 5 => .int .i64 (F.cell a.h0:Nat)
 | 6 => .int .i64 ((a.hc * F.W:Nat):Int)
 | 7 => .int .i64 (a.st:Nat)
 | 8 => .int .i64 (a.held:Nat)
 | 9 => lv
 | 10 => wv
 | 11 => .int .i64 (a.od:Nat)
 | 12 => .int .i64 (a.wt:Nat)
 | 13 => .int .i64 a.mark
 | 14 => .int .i64 a.ans
 | _ => .int .i64 (a.vain:Nat)
def VarIs (w:World) (E:Nat→Prop) (b:Nat) (l:List Value):Prop:=E b∧∀ (i:Nat) (v:Value),l[i]?=some v→w.cell? ⟨b,i,none⟩=some v
inductive WkAt (w:World) (E:Nat→Prop):Wk→Value→Prop
 | look (v:Int) (m b:Nat) (h:VarIs w E b [.int .i64 v,.int .u64 (m:Int)]):WkAt w E (.look v m) (.func (.func 50) #[] #[.pointer (some ⟨b,0,none⟩)])
 | learn (v:Int) (m:Nat) (p:Int) (now b b2 b3:Nat) (h:VarIs w E b [.int .i64 v,.int .u64 (m:Int)]) (h2:VarIs w E b2 [.int .i64 p]) (h3:VarIs w E b3 [.int .u32 (now:Int)]):WkAt w E (.learn v m p now) (.func (.func 62) #[] #[.pointer (some ⟨b,0,none⟩),.pointer (some ⟨b2,0,none⟩),.pointer (some ⟨b3,0,none⟩)])
 | order (v:Int) (m:Nat) (p:Int) (now b b2 b3:Nat) (h:VarIs w E b [.int .i64 v,.int .u64 (m:Int)]) (h2:VarIs w E b2 [.int .i64 p]) (h3:VarIs w E b3 [.int .u32 (now:Int)]):WkAt w E (.order v m p now) (.func (.func 64) #[] #[.pointer (some ⟨b,0,none⟩),.pointer (some ⟨b2,0,none⟩),.pointer (some ⟨b3,0,none⟩)])
 | drop (v:Int) (m b:Nat) (h:VarIs w E b [.int .i64 v,.int .u64 (m:Int)]):WkAt w E (.drop v m) (.func (.func 66) #[] #[.pointer (some ⟨b,0,none⟩)])
 | age (now lim b b2:Nat) (h:VarIs w E b [.int .u32 (now:Int)]) (h2:VarIs w E b2 [.int .u32 (lim:Int)]):WkAt w E (.age now lim) (.func (.func 69) #[] #[.pointer (some ⟨b,0,none⟩),.pointer (some ⟨b2,0,none⟩)])
 | flush (p v:Int) (b:Nat) (h:VarIs w E b [.int .i64 p,.int .i64 v]):WkAt w E (.flush p v) (.func (.func 71) #[] #[.pointer (some ⟨b,0,none⟩)])
theorem VarIs.keep {w w':World} {E E':Nat→Prop} {b:Nat} {l:List Value} (h:VarIs w E b l) (hE:∀ k,E k→E' k) (hk:∀ k,E k→w'.heap[k]?=w.heap[k]?):VarIs w' E' b l :=
 ⟨hE b h.1,fun i v hv => (World.cell?_of_block (w:=w) (hk b h.1)).trans (h.2 i v hv)⟩
theorem WkAt.keep {w w':World} {E E':Nat→Prop} {k:Wk} {fv:Value} (h:WkAt w E k fv) (hE:∀ k,E k→E' k) (hk:∀ k,E k→w'.heap[k]?=w.heap[k]?):WkAt w' E' k fv:=by
 cases h with
 | look v m b h => exact .look v m b (h.keep hE hk)
 | learn v m p now b b2 b3 h h2 h3 => exact .learn v m p now b b2 b3 (h.keep hE hk) (h2.keep hE hk) (h3.keep hE hk)
 | order v m p now b b2 b3 h h2 h3 => exact .order v m p now b b2 b3 (h.keep hE hk) (h2.keep hE hk) (h3.keep hE hk)
 | drop v m b h => exact .drop v m b (h.keep hE hk)
 | age now lim b b2 h h2 => exact .age now lim b b2 (h.keep hE hk) (h2.keep hE hk)
 | flush p v b h => exact .flush p v b (h.keep hE hk)
def wrc:List (Nat × Int)→List Value
 | [] => []
 | x :: l => .int .i64 (x.1:Nat) :: .int .u64 x.2 :: wrc l
theorem wrc_append:∀ a b,wrc (a ++ b)=wrc a ++ wrc b
 | [],b => rfl
 | x :: a,b => by simp [wrc,wrc_append a b]
theorem wrc_one:∀ l,∀ u ∈ wrc l,u.oneCell'=true
 | [],u,h => by simp [wrc] at h
 | x :: l,u,h => by
  simp [wrc] at h
  rcases h with rfl | rfl | h
  ·rfl
  ·rfl
  ·exact wrc_one l u h
theorem wrc_at:∀ (l:List (Nat × Int)) (j:Nat),(wrc l)[j * 2]?=(l[j]?).map (fun x => Value.int .i64 (x.1:Nat))∧(wrc l)[j * 2 + 1]?=(l[j]?).map (fun x => Value.int .u64 x.2)
 | [],j => by simp [wrc]
 | x :: l,0 => by simp [wrc]
 | x :: l,j + 1 => by
  have:=wrc_at l j
  rw [show (j + 1) * 2=j * 2 + 1 + 1 by omega]
  simp only [wrc,List.getElem?_cons_succ]
  exact this
structure FactIn (w:World) (L:Nat) (E:Nat→Prop) (fb ab:Nat) (F:FcS) (a:FaS) (fv lv wv:Value):Prop where
 row:w.rowIs ab 93 16 (factF fb F a fv lv wv)
 own:E ab
 wk:WkAt w (fun k => E k∧k < ab) a.wk fv
 ld:w.ownsRow L 44 1 lv a.ld.length (kv .u64 a.ld)
 wr:w.ownsRow L 132 2 wv a.wr.length (wrc a.wr)
 ldE:∀ k,lv.ownBlock=some k→E k∧ab < k
 wrE:∀ k,wv.ownBlock=some k→E k∧ab < k
 low:∀ k,E k→L≤k∧k < w.heap.size
 tb:0≤a.mark∧a.mark≤4611686018427387904
 an:-1048576≤a.ans∧a.ans≤1048576
def FactAt (w:World) (L:Nat) (E:Nat→Prop) (fb ab:Nat) (F:FcS) (a:FaS):Prop:=∃ fv lv wv,FactIn w L E fb ab F a fv lv wv
def growE (E:Nat→Prop) (w w':World) (k:Nat):Prop:=E k ∨ (w.heap.size≤k∧k < w'.heap.size)
def FdD (lo:Nat) (E:Nat→Prop) (k:Nat):Prop:=(lo≤k∧k < lo + 3) ∨ E k
theorem FdbAt.lt {w:World} {lo b fb:Nat} {F:FcS} {m:MemS} (h:FdbAt w lo b fb F m):fb < w.heap.size:=h.row.lt
theorem FdbAt.tch {D:Nat→Prop} {w w':World} {lo b fb:Nat} {F:FcS} {m:MemS} (h:FdbAt w lo b fb F m) (ht:Tch D w w') (hd:∀ k,lo≤k→k < lo + 3→¬ D k) (hr:¬ D fb):FdbAt w' lo b fb F m :=
 ⟨h.mem.tch ht hd,rowIs_tch h.row ht hr,h.out,h.fits⟩
theorem FdbAt.below {w w':World} {lo b fb:Nat} {F:FcS} {m:MemS} (h:FdbAt w lo b fb F m) (hb:Below w.heap.size w w'):FdbAt w' lo b fb F m :=
 ⟨h.mem.below hb,h.row.of_block (hb.block _ h.lt),h.out,h.fits⟩
theorem FdbAt.memory {w w':World} {lo b fb:Nat} {F:FcS} {m m':MemS} (h:FdbAt w lo b fb F m) (hm:MemAt w' 82 lo b m') (ht:Touch lo w w') (hC:m'.C=m.C) (hL:m'.L=m.L):FdbAt w' lo b fb F m' :=
 ⟨hm,h.row.of_block (ht.block _ h.lt (.inr h.out)),h.out,by rw [hC,hL]; exact h.fits⟩
theorem FdbAt.at_ {w:World} {lo b fb:Nat} {F:FcS} {m:MemS} (h:FdbAt w lo b fb F m) :
  w.cell? ⟨fb,0,none⟩=some (.pointer (some ⟨b,0,none⟩))∧w.cell? ⟨fb,1,none⟩=some (.int .i64 (F.ba:Nat))∧w.cell? ⟨fb,2,none⟩=some (.int .i64 (F.lk:Nat))∧w.cell? ⟨fb,3,none⟩=some (.int .i64 (F.S:Nat))∧w.cell? ⟨fb,4,none⟩=some (.int .i64 (F.B:Nat))∧w.cell? ⟨fb,5,none⟩=some (.int .i64 (F.n:Nat))∧w.cell? ⟨fb,6,none⟩=some (.int .i64 (F.tr:Nat)) :=
 ⟨h.row.cell (by omega),h.row.cell (by omega),h.row.cell (by omega),h.row.cell (by omega),h.row.cell (by omega),h.row.cell (by omega),h.row.cell (by omega)⟩
theorem FactIn.lt {w:World} {L:Nat} {E:Nat→Prop} {fb ab:Nat} {F:FcS} {a:FaS} {fv lv wv:Value} (h:FactIn w L E fb ab F a fv lv wv):ab < w.heap.size:=h.row.lt
theorem FactIn.tch {D:Nat→Prop} {w w':World} {L:Nat} {E:Nat→Prop} {fb ab:Nat} {F:FcS} {a:FaS} {fv lv wv:Value} (h:FactIn w L E fb ab F a fv lv wv) (ht:Tch D w w') (hd:∀ k,E k→¬ D k):FactIn w' L E fb ab F a fv lv wv where
 row:=rowIs_tch h.row ht (hd _ h.own)
 own:=h.own
 wk:=h.wk.keep (fun _ h => h) fun k hk => ht.block k (h.low k hk.1).2 (hd k hk.1)
 ld:=own_tch h.ld ht fun k hk => hd k (h.ldE k hk).1
 wr:=own_tch h.wr ht fun k hk => hd k (h.wrE k hk).1
 ldE:=h.ldE
 wrE:=h.wrE
 low:=fun k hk => ⟨(h.low k hk).1,Nat.lt_of_lt_of_le (h.low k hk).2 ht.size⟩
 tb:=h.tb
 an:=h.an
theorem FactIn.below {w w':World} {L:Nat} {E:Nat→Prop} {fb ab:Nat} {F:FcS} {a:FaS} {fv lv wv:Value} (h:FactIn w L E fb ab F a fv lv wv) (hb:Below w.heap.size w w'):FactIn w' L E fb ab F a fv lv wv :=
 h.tch (D:=fun _ => False) (Tch.of_below hb) fun _ _ h => h
theorem FactIn.touch {w w':World} {lo L:Nat} {E:Nat→Prop} {fb ab:Nat} {F:FcS} {a:FaS} {fv lv wv:Value} (h:FactIn w L E fb ab F a fv lv wv) (ht:Touch lo w w') (hL:lo + 3≤L):FactIn w' L E fb ab F a fv lv wv :=
 h.tch (D:=fun k => lo≤k∧k < lo + 3) (Tch.of_touch ht fun k h1 h2 => ⟨h1,h2⟩) fun k hk hd => by have:=(h.low k hk).1; omega
theorem FactIn.grow {w:World} {L:Nat} {E E':Nat→Prop} {fb ab:Nat} {F:FcS} {a:FaS} {fv lv wv:Value} (h:FactIn w L E fb ab F a fv lv wv) (hE:∀ k,E k→E' k) (hl:∀ k,E' k→L≤k∧k < w.heap.size):FactIn w L E' fb ab F a fv lv wv where
 row:=h.row
 own:=hE _ h.own
 wk:=h.wk.keep (fun k hk => ⟨hE k hk.1,hk.2⟩) fun _ _ => rfl
 ld:=h.ld
 wr:=h.wr
 ldE:=fun k hk => ⟨hE k (h.ldE k hk).1,(h.ldE k hk).2⟩
 wrE:=fun k hk => ⟨hE k (h.wrE k hk).1,(h.wrE k hk).2⟩
 low:=hl
 tb:=h.tb
 an:=h.an
theorem FactIn.tab {w:World} {L:Nat} {E:Nat→Prop} {fb ab:Nat} {F:FcS} {a:FaS} {fv lv wv:Value} (h:FactIn w L E fb ab F a fv lv wv) (o:Nat) (v:Value):Tch (fun k => k=ab) w (w.setCell ⟨ab,o,none⟩ v):=Tch.setCell (D:=fun k => k=ab) (Tch.refl _ w) (p:=⟨ab,o,none⟩) rfl v
theorem FactIn.lift {w:World} {L:Nat} {E:Nat→Prop} {fb ab:Nat} {F:FcS} {a:FaS} {fv lv wv:Value} (h:FactIn w L E fb ab F a fv lv wv) (o:Nat) (v:Value) :
  WkAt (w.setCell ⟨ab,o,none⟩ v) (fun k => E k∧k < ab) a.wk fv∧(w.setCell ⟨ab,o,none⟩ v).ownsRow L 44 1 lv a.ld.length (kv .u64 a.ld)∧(w.setCell ⟨ab,o,none⟩ v).ownsRow L 132 2 wv a.wr.length (wrc a.wr)∧∀ k,E k→L≤k∧k < (w.setCell ⟨ab,o,none⟩ v).heap.size :=
 ⟨h.wk.keep (fun _ h => h) fun k hk => (h.tab o v).block k (h.low k hk.1).2 (by omega),own_tch h.ld (h.tab o v) fun k hk e => by have:=(h.ldE k hk).2; omega,own_tch h.wr (h.tab o v) fun k hk e => by have:=(h.wrE k hk).2; omega,fun k hk => by simpa using h.low k hk⟩
theorem FactIn.set_st {w:World} {L:Nat} {E:Nat→Prop} {fb ab:Nat} {F:FcS} {a:FaS} {fv lv wv:Value} (h:FactIn w L E fb ab F a fv lv wv) (z:Nat):FactIn (w.setCell ⟨ab,7,none⟩ (.int .i64 (z:Nat))) L E fb ab F { a with st:=z } fv lv wv where
 row:=(h.row.set 7 _).congr fun i hi => by
  match i,hi with
  | 0,_ => rfl
  | 1,_ => rfl
  | 2,_ => rfl
  | 3,_ => rfl
  | 4,_ => rfl
  | 5,_ => rfl
  | 6,_ => rfl
  | 7,_ => rfl
  | 8,_ => rfl
  | 9,_ => rfl
  | 10,_ => rfl
  | 11,_ => rfl
  | 12,_ => rfl
  | 13,_ => rfl
  | 14,_ => rfl
  | 15,_ => rfl
  | _ + 16,hh => exact absurd hh (by omega)
 own:=h.own
 wk:=(h.lift 7 _).1
 ld:=(h.lift 7 _).2.1
 wr:=(h.lift 7 _).2.2.1
 ldE:=h.ldE
 wrE:=h.wrE
 low:=(h.lift 7 (.int .i64 (z:Nat))).2.2.2
 tb:=h.tb
 an:=h.an
theorem FactIn.set_held {w:World} {L:Nat} {E:Nat→Prop} {fb ab:Nat} {F:FcS} {a:FaS} {fv lv wv:Value} (h:FactIn w L E fb ab F a fv lv wv) (z:Nat):FactIn (w.setCell ⟨ab,8,none⟩ (.int .i64 (z:Nat))) L E fb ab F { a with held:=z } fv lv wv where
 row:=(h.row.set 8 _).congr fun i hi => by
  match i,hi with
  | 0,_ => rfl
  | 1,_ => rfl
  | 2,_ => rfl
  | 3,_ => rfl
  | 4,_ => rfl
  | 5,_ => rfl
  | 6,_ => rfl
  | 7,_ => rfl
  | 8,_ => rfl
  | 9,_ => rfl
  | 10,_ => rfl
  | 11,_ => rfl
  | 12,_ => rfl
  | 13,_ => rfl
  | 14,_ => rfl
  | 15,_ => rfl
  | _ + 16,hh => exact absurd hh (by omega)
 own:=h.own
 wk:=(h.lift 8 _).1
 ld:=(h.lift 8 _).2.1
 wr:=(h.lift 8 _).2.2.1
 ldE:=h.ldE
 wrE:=h.wrE
 low:=(h.lift 8 (.int .i64 (z:Nat))).2.2.2
 tb:=h.tb
 an:=h.an
theorem FactIn.set_od {w:World} {L:Nat} {E:Nat→Prop} {fb ab:Nat} {F:FcS} {a:FaS} {fv lv wv:Value} (h:FactIn w L E fb ab F a fv lv wv) (z:Nat):FactIn (w.setCell ⟨ab,11,none⟩ (.int .i64 (z:Nat))) L E fb ab F { a with od:=z } fv lv wv where
 row:=(h.row.set 11 _).congr fun i hi => by
  match i,hi with
  | 0,_ => rfl
  | 1,_ => rfl
  | 2,_ => rfl
  | 3,_ => rfl
  | 4,_ => rfl
  | 5,_ => rfl
  | 6,_ => rfl
  | 7,_ => rfl
  | 8,_ => rfl
  | 9,_ => rfl
  | 10,_ => rfl
  | 11,_ => rfl
  | 12,_ => rfl
  | 13,_ => rfl
  | 14,_ => rfl
  | 15,_ => rfl
  | _ + 16,hh => exact absurd hh (by omega)
 own:=h.own
 wk:=(h.lift 11 _).1
 ld:=(h.lift 11 _).2.1
 wr:=(h.lift 11 _).2.2.1
 ldE:=h.ldE
 wrE:=h.wrE
 low:=(h.lift 11 (.int .i64 (z:Nat))).2.2.2
 tb:=h.tb
 an:=h.an
theorem FactIn.set_wt {w:World} {L:Nat} {E:Nat→Prop} {fb ab:Nat} {F:FcS} {a:FaS} {fv lv wv:Value} (h:FactIn w L E fb ab F a fv lv wv) (z:Nat):FactIn (w.setCell ⟨ab,12,none⟩ (.int .i64 (z:Nat))) L E fb ab F { a with wt:=z } fv lv wv where
 row:=(h.row.set 12 _).congr fun i hi => by
  match i,hi with
  | 0,_ => rfl
  | 1,_ => rfl
  | 2,_ => rfl
  | 3,_ => rfl
  | 4,_ => rfl
  | 5,_ => rfl
  | 6,_ => rfl
  | 7,_ => rfl
  | 8,_ => rfl
  | 9,_ => rfl
  | 10,_ => rfl
  | 11,_ => rfl
  | 12,_ => rfl
  | 13,_ => rfl
  | 14,_ => rfl
  | 15,_ => rfl
  | _ + 16,hh => exact absurd hh (by omega)
 own:=h.own
 wk:=(h.lift 12 _).1
 ld:=(h.lift 12 _).2.1
 wr:=(h.lift 12 _).2.2.1
 ldE:=h.ldE
 wrE:=h.wrE
 low:=(h.lift 12 (.int .i64 (z:Nat))).2.2.2
 tb:=h.tb
 an:=h.an
theorem FactIn.set_vain {w:World} {L:Nat} {E:Nat→Prop} {fb ab:Nat} {F:FcS} {a:FaS} {fv lv wv:Value} (h:FactIn w L E fb ab F a fv lv wv) (z:Nat):FactIn (w.setCell ⟨ab,15,none⟩ (.int .i64 (z:Nat))) L E fb ab F { a with vain:=z } fv lv wv where
 row:=(h.row.set 15 _).congr fun i hi => by
  match i,hi with
  | 0,_ => rfl
  | 1,_ => rfl
  | 2,_ => rfl
  | 3,_ => rfl
  | 4,_ => rfl
  | 5,_ => rfl
  | 6,_ => rfl
  | 7,_ => rfl
  | 8,_ => rfl
  | 9,_ => rfl
  | 10,_ => rfl
  | 11,_ => rfl
  | 12,_ => rfl
  | 13,_ => rfl
  | 14,_ => rfl
  | 15,_ => rfl
  | _ + 16,hh => exact absurd hh (by omega)
 own:=h.own
 wk:=(h.lift 15 _).1
 ld:=(h.lift 15 _).2.1
 wr:=(h.lift 15 _).2.2.1
 ldE:=h.ldE
 wrE:=h.wrE
 low:=(h.lift 15 (.int .i64 (z:Nat))).2.2.2
 tb:=h.tb
 an:=h.an
theorem FactIn.set_mark {w:World} {L:Nat} {E:Nat→Prop} {fb ab:Nat} {F:FcS} {a:FaS} {fv lv wv:Value} (h:FactIn w L E fb ab F a fv lv wv) (z:Int) (hz:0≤z∧z≤4611686018427387904):FactIn (w.setCell ⟨ab,13,none⟩ (.int .i64 z)) L E fb ab F { a with mark:=z } fv lv wv where
 row:=(h.row.set 13 _).congr fun i hi => by
  match i,hi with
  | 0,_ => rfl
  | 1,_ => rfl
  | 2,_ => rfl
  | 3,_ => rfl
  | 4,_ => rfl
  | 5,_ => rfl
  | 6,_ => rfl
  | 7,_ => rfl
  | 8,_ => rfl
  | 9,_ => rfl
  | 10,_ => rfl
  | 11,_ => rfl
  | 12,_ => rfl
  | 13,_ => rfl
  | 14,_ => rfl
  | 15,_ => rfl
  | _ + 16,hh => exact absurd hh (by omega)
 own:=h.own
 wk:=(h.lift 13 _).1
 ld:=(h.lift 13 _).2.1
 wr:=(h.lift 13 _).2.2.1
 ldE:=h.ldE
 wrE:=h.wrE
 low:=(h.lift 13 (.int .i64 z)).2.2.2
 tb:=hz
 an:=h.an
theorem FactIn.set_ans {w:World} {L:Nat} {E:Nat→Prop} {fb ab:Nat} {F:FcS} {a:FaS} {fv lv wv:Value} (h:FactIn w L E fb ab F a fv lv wv) (z:Int) (hz:-1048576≤z∧z≤1048576):FactIn (w.setCell ⟨ab,14,none⟩ (.int .i64 z)) L E fb ab F { a with ans:=z } fv lv wv where
 row:=(h.row.set 14 _).congr fun i hi => by
  match i,hi with
  | 0,_ => rfl
  | 1,_ => rfl
  | 2,_ => rfl
  | 3,_ => rfl
  | 4,_ => rfl
  | 5,_ => rfl
  | 6,_ => rfl
  | 7,_ => rfl
  | 8,_ => rfl
  | 9,_ => rfl
  | 10,_ => rfl
  | 11,_ => rfl
  | 12,_ => rfl
  | 13,_ => rfl
  | 14,_ => rfl
  | 15,_ => rfl
  | _ + 16,hh => exact absurd hh (by omega)
 own:=h.own
 wk:=(h.lift 14 _).1
 ld:=(h.lift 14 _).2.1
 wr:=(h.lift 14 _).2.2.1
 ldE:=h.ldE
 wrE:=h.wrE
 low:=(h.lift 14 (.int .i64 z)).2.2.2
 tb:=h.tb
 an:=hz
theorem FactIn.set_ld {w:World} {L:Nat} {E:Nat→Prop} {fb ab:Nat} {F:FcS} {a:FaS} {fv lv wv:Value} (h:FactIn w L E fb ab F a fv lv wv) {u:Value} {l:List Int} (hu:w.ownsRow L 44 1 u l.length (kv .u64 l)) (hE:∀ k,u.ownBlock=some k→E k∧ab < k):FactIn (w.setCell ⟨ab,9,none⟩ u) L E fb ab F { a with ld:=l } fv u wv where
 row:=(h.row.set 9 _).congr fun i hi => by
  match i,hi with
  | 0,_ => rfl
  | 1,_ => rfl
  | 2,_ => rfl
  | 3,_ => rfl
  | 4,_ => rfl
  | 5,_ => rfl
  | 6,_ => rfl
  | 7,_ => rfl
  | 8,_ => rfl
  | 9,_ => rfl
  | 10,_ => rfl
  | 11,_ => rfl
  | 12,_ => rfl
  | 13,_ => rfl
  | 14,_ => rfl
  | 15,_ => rfl
  | _ + 16,hh => exact absurd hh (by omega)
 own:=h.own
 wk:=(h.lift 9 _).1
 ld:=own_tch hu (h.tab _ _) fun k hk e => by have:=(hE k hk).2; omega
 wr:=(h.lift 9 _).2.2.1
 ldE:=hE
 wrE:=h.wrE
 low:=(h.lift 9 u).2.2.2
 tb:=h.tb
 an:=h.an
theorem FactIn.set_wr {w:World} {L:Nat} {E:Nat→Prop} {fb ab:Nat} {F:FcS} {a:FaS} {fv lv wv:Value} (h:FactIn w L E fb ab F a fv lv wv) {u:Value} {l:List (Nat × Int)} (hu:w.ownsRow L 132 2 u l.length (wrc l)) (hE:∀ k,u.ownBlock=some k→E k∧ab < k):FactIn (w.setCell ⟨ab,10,none⟩ u) L E fb ab F { a with wr:=l } fv lv u where
 row:=(h.row.set 10 _).congr fun i hi => by
  match i,hi with
  | 0,_ => rfl
  | 1,_ => rfl
  | 2,_ => rfl
  | 3,_ => rfl
  | 4,_ => rfl
  | 5,_ => rfl
  | 6,_ => rfl
  | 7,_ => rfl
  | 8,_ => rfl
  | 9,_ => rfl
  | 10,_ => rfl
  | 11,_ => rfl
  | 12,_ => rfl
  | 13,_ => rfl
  | 14,_ => rfl
  | 15,_ => rfl
  | _ + 16,hh => exact absurd hh (by omega)
 own:=h.own
 wk:=(h.lift 10 _).1
 ld:=(h.lift 10 _).2.1
 wr:=own_tch hu (h.tab _ _) fun k hk e => by have:=(hE k hk).2; omega
 ldE:=h.ldE
 wrE:=hE
 low:=(h.lift 10 u).2.2.2
 tb:=h.tb
 an:=h.an
theorem FactIn.at_ {w:World} {L:Nat} {E:Nat→Prop} {fb ab:Nat} {F:FcS} {a:FaS} {fv lv wv:Value} (h:FactIn w L E fb ab F a fv lv wv) {i:Nat} (hi:i < 16):w.cell? ⟨ab,i,none⟩=some (factF fb F a fv lv wv i):=h.row.cell hi
theorem FactIn.fz {w:World} {L:Nat} {E:Nat→Prop} {fb ab:Nat} {F:FcS} {a:FaS} {fv lv wv:Value} (h:FactIn w L E fb ab F a fv lv wv) (o:Nat):w.frozen? ⟨ab,o,none⟩=false:=h.row.frozen o
theorem Tch.fset {lo:Nat} {E:Nat→Prop} {ab:Nat} {u w:World} (h:Tch (FdD lo E) u w) (hE:E ab) (o:Nat) (v:Value):Tch (FdD lo E) u (w.setCell ⟨ab,o,none⟩ v):=h.setCell (.inr hE) v
theorem Tch.ftouch {lo:Nat} {E:Nat→Prop} {u w w':World} (h:Tch (FdD lo E) u w) (ht:Touch lo w w'):Tch (FdD lo E) u w':=h.trans (Tch.of_touch ht fun k h1 h2 => .inl ⟨h1,h2⟩)
theorem FdbAt.fset {w:World} {lo b fb:Nat} {F:FcS} {m:MemS} (h:FdbAt w lo b fb F m) {ab:Nat} (h1:lo + 3≤ab) (h2:ab ≠ fb) (o:Nat) (v:Value):FdbAt (w.setCell ⟨ab,o,none⟩ v) lo b fb F m :=
 h.tch (D:=fun k => k=ab) (Tch.setCell (D:=fun k => k=ab) (Tch.refl _ w) (p:=⟨ab,o,none⟩) rfl v) (fun k h3 h4 e => by omega) (fun e => h2 e.symm)
theorem stU64f:ST Try.prog 80 44 (.int .u64 0) 1 8:=ST.mk Try.underlying80 (by kernel_rfl) rfl (by omega) (by omega)
theorem stWrites:ST Try.prog 91 132 (.agg #[.int .i64 0,.int .u64 0]) 2 16:=ST.mk Try.underlying91 (by kernel_rfl) rfl (by omega) (by omega)
end Go.Proofs.Ythloabdfkakehaa
