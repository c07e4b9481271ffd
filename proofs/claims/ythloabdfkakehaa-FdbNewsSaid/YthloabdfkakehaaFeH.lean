/-
  Words and contracts that a statement's proof rests on (Store, FdF, FeH). No statement is proved here.
-/
import Derived.Deep.MidRow
import Derived.Test.YthloabdfkakehaaPlainFrame
import Derived.Test.YthloabdfkakehaaFdE
import Derived.Test.YthloabdfkakehaaFeG
set_option linter.unusedVariables false
set_option linter.unusedSimpArgs false
namespace Go.Proofs.Ythloabdfkakehaa
section
open Go.RowKit
theorem heap_setCell_far (w:World) (p:Addr) (v:Value) {k:Nat} (h:k ≠ p.block):(w.setCell p v).heap[k]?=w.heap[k]?:=by
 unfold World.setCell
 simp only [Array.getElem?_modify]
 rw [if_neg (fun e => h e.symm)]
theorem heap_setCells_far (b:Nat):∀ (vs:List Value) (o:Nat) (w:World) {k:Nat},k ≠ b→(w.setCells b o vs).heap[k]?=w.heap[k]?
 | [],_,_,_,_ => rfl
 | v :: r,o,w,_,h => (heap_setCells_far b r (o + 1) _ h).trans (heap_setCell_far w ⟨b,o,none⟩ v h)
theorem below_setCells {B b:Nat} (hB:B≤b):∀ (vs:List Value) (o:Nat) (w0 w:World),Below B w0 w→Below B w0 (w.setCells b o vs)
 | [],_,_,_,h => h
 | v :: r,o,w0,_,h => below_setCells hB r (o + 1) w0 _ (h.setCell hB v)
theorem size_setCells (b:Nat):∀ (vs:List Value) (o:Nat) (w:World),(w.setCells b o vs).heap.size=w.heap.size
 | [],_,_ => rfl
 | v :: r,o,w => (size_setCells b r (o + 1) _).trans (by simp)
structure Stored (w:World) (b o:Nat) (vs:List Value) (w':World):Prop where
 cells:∀ j v,vs[j]?=some v→w'.cell? ⟨b,o + j,none⟩=some v
 far:∀ k,k ≠ b→w'.heap[k]?=w.heap[k]?
 size:w'.heap.size=w.heap.size
 below:∀ B,B≤b→Below B w w'
 marks:∀ p,w'.frozen? p=w.frozen? p
theorem Stored.mk_ (w:World) (b o:Nat) (vs:List Value) (ht:w.there b o vs.length):Stored w b o vs (w.setCells b o vs) :=
 ⟨World.rangeAt_setCells_same w b o vs ht,fun _ h => heap_setCells_far b vs o w h,size_setCells b vs o w,fun _ hB => below_setCells hB vs o w w (Below.refl _ _),fun p => World.frozen?_setCells b vs o w p⟩
section
variable {P:Program}
theorem step_store {ops:Array Oper} {op:Oper} {a:Act} {w:World} {K:Act→World→Prop} {Q:Exit→Act→World→Prop} {E:Prop} (hgd:op.guard=none) (ty:TypeId) (x y:Operand) (ho:op.op=.store ty x y)
  (b o:Nat) (cells:Array Value) (hx:a.eval x=.pointer (some ⟨b,o,none⟩)) (hy:a.eval y=.agg cells)
  (ht:w.there b o cells.size) (hi:(P.info? ty).map (·.size)=some cells.size) (h1:cells.all (·.oneCell')=true)
  (h:∀ w',Stored w b o cells.toList w'→K (a.put op.dst undef) w'):if Region.wanted op (yielded ops a.tmps)=true then Oper.wp P op a w K Q else E:=by
 have hw:Region.wanted op (yielded ops a.tmps)=true:=by simp [Region.wanted,hgd]
 rw [if_pos hw]
 exact wp_store_mid ty x y ho b o cells hx hy ht hi h1 (h _ (Stored.mk_ w b o cells.toList (by simpa using ht)))
end
end
section
open Go.RowKit
section
variable {w:World} {lo b fb L ab:Nat} {E:Nat→Prop} {F:FcS} {m:MemS} {a:FaS} {fv lv wv:Value}
theorem own_types {w:World} {B B' s s' n n':Nat} {e e':TypeId} {v v':Value} {xs xs':List Value} (h:w.ownsRow B e s v n xs) (h':w.ownsRow B' e' s' v' n' xs') (hne:e ≠ e') {k:Nat} (h1:v.ownBlock=some k) (h2:v'.ownBlock=some k):False:=by
 rcases h.2 with hn | ⟨g,cap,cur,hv,_,hg,_⟩
 ·rw [hn.1] at h1; cases h1
 ·rcases h'.2 with hn | ⟨g',cap',cur',hv',_,hg',_⟩
  ·rw [hn.1] at h2; cases h2
  ·rw [hv] at h1
   rw [hv'] at h2
   injection h1 with h1
   injection h2 with h2
   simp only at h1 h2
   rw [h1] at hg
   rw [h2] at hg'
   rw [hg] at hg'
   injection hg' with h9
   injection h9 with _ h8
   exact hne h8
theorem kv_snoc (l:List Int) (V:Int):kv .u64 (l ++ [V])=kv .u64 l ++ [.int .u64 V]:=by simp [kv]
theorem fd_app {W w2:World} {v2:Value} {V:Int} (hf:FdbAt W lo b fb F m) (ha:FactIn W L E fb ab F a fv lv wv) (htc:Tch (FdD lo E) w W) (h1:lo + 3≤L) (h2:fb < L) (hLw:L≤w.heap.size)
  (hown:w2.ownsRow L 44 1 v2 (a.ld.length + 1) (kv .u64 a.ld ++ [.int .u64 V])) (hgr:W.grownBy w2 lv.ownBlock) (hat:v2.ownBlock=lv.ownBlock ∨ v2.ownBlock=some W.heap.size) :
  (FdbAt w2 lo b fb F m∧w2.rowIs ab 93 16 (factF fb F a fv lv wv)) ∧
  FdbAt (w2.setCell ⟨ab,9,none⟩ v2) lo b fb F m∧FactIn (w2.setCell ⟨ab,9,none⟩ v2) L (growE E w (w2.setCell ⟨ab,9,none⟩ v2)) fb ab F { a with ld:=a.ld ++ [V] } fv v2 wv∧Tch (FdD lo E) w (w2.setCell ⟨ab,9,none⟩ v2):=by
 have ht1:Tch (fun k => lv.ownBlock=some k) W w2:=⟨hgr.os,hgr.tape,hgr.output,hgr.size,fun k hk hn => hgr.block k hk fun e => hn e.symm⟩
 have hab:L≤ab:=(ha.low _ ha.own).1
 have hrow:w2.rowIs ab 93 16 (factF fb F a fv lv wv):=rowIs_tch ha.row ht1 fun e => by have:=(ha.ldE _ e).2; omega
 have hf2:FdbAt w2 lo b fb F m:=hf.tch ht1 (fun k h3 h4 e => by have:=(ha.low _ (ha.ldE _ e).1).1; omega) (fun e => by have:=(ha.low _ (ha.ldE _ e).1).1; omega)
 have hfs:FdbAt (w2.setCell ⟨ab,9,none⟩ v2) lo b fb F m:=hf2.fset (by omega) (by omega) 9 v2
 have hts:Tch (fun k => k=ab) w2 (w2.setCell ⟨ab,9,none⟩ v2):=Tch.setCell (D:=fun k => k=ab) (Tch.refl _ w2) (p:=⟨ab,9,none⟩) rfl v2
 have hzW:=htc.size
 have hz2:=hgr.size
 have hblt:ab < W.heap.size:=ha.lt
 have hvE:∀ k,v2.ownBlock=some k→growE E w w2 k∧ab < k:=fun k hk => by
  rcases hat with h9 | h9
  ·rw [h9] at hk
   exact ⟨.inl (ha.ldE k hk).1,(ha.ldE k hk).2⟩
  ·have h8:=hown.lt k hk
   rw [hk] at h9
   injection h9 with h9
   subst h9
   exact ⟨.inr ⟨by omega,h8.2⟩,hblt⟩
 have hlow:∀ k,growE E w w2 k→L≤k∧k < w2.heap.size:=fun k hk => by
  rcases hk with h9 | h9
  ·have:=ha.low k h9; omega
  ·omega
 have hE2:growE E w (w2.setCell ⟨ab,9,none⟩ v2)=growE E w w2:=by
  funext k
  unfold growE
  simp [World.setCell]
 refine ⟨⟨hf2,hrow⟩,hfs,?_,?_⟩
 ·rw [hE2]
  exact {
   row:=(hrow.set 9 v2).congr fun i hi => by
    match i,hi with
    | 0,_ => rfl
    | 1,_ => rfl
    | 2,_ => rfl
    | 3,_ => rfl
    | 4,_ => rfl
    | 5,_ => rfl
    | 6,_ => rfl
    | 7,_ => rfl
    | 8,_ => rfl
    | 9,_ => rfl
    | 10,_ => rfl
    | 11,_ => rfl
    | 12,_ => rfl
    | 13,_ => rfl
    | 14,_ => rfl
    | 15,_ => rfl
    | _ + 16,hh => exact absurd hh (by omega)
   own:=.inl ha.own
   wk:=(ha.wk.keep (w':=w2) (E':=fun k => E k∧k < ab) (fun _ h => h) fun k hk => ht1.block k (ha.low k hk.1).2 fun e => by have:=(ha.ldE k e).2; omega).keep (fun k hk => ⟨.inl hk.1,hk.2⟩) fun k hk => hts.block k (by have:=(ha.low k hk.1).2; omega) (by omega)
   ld:=by
    have h9:=own_tch hown hts fun k hk e => by have:=(hvE k hk).2; omega
    rw [← kv_snoc] at h9
    have e:(a.ld ++ [V]).length=a.ld.length + 1:=by simp
    show World.ownsRow _ _ _ _ _ (a.ld ++ [V]).length (kv .u64 (a.ld ++ [V]))
    rw [e]
    exact h9
   wr:=own_tch (own_tch ha.wr ht1 fun k hk e => own_types ha.ld ha.wr (by decide) e hk) hts fun k hk e => by have:=(ha.wrE k hk).2; omega
   ldE:=hvE
   wrE:=fun k hk => ⟨.inl (ha.wrE k hk).1,(ha.wrE k hk).2⟩
   low:=fun k hk => by have:=hlow k hk; simpa using this
   tb:=ha.tb
   an:=ha.an }
 ·refine (htc.trans (ht1.mono fun k hk e => .inr (ha.ldE k e).1)).trans (hts.mono fun k hk e => .inr ?_)
  rw [e]; exact ha.own
theorem fd_more {W W':World} (h:FdbAt W lo b fb F m∧FactIn W L E fb ab F a fv lv wv∧Tch (FdD lo E) w W) (hb:Below W.heap.size W W'):FdbAt W' lo b fb F m∧FactIn W' L E fb ab F a fv lv wv∧Tch (FdD lo E) w W' :=
 ⟨h.1.below hb,h.2.1.below hb,h.2.2.trans (Tch.of_below hb)⟩
theorem fd_step {W W':World} {m':MemS} (h:FdbAt W lo b fb F m∧FactIn W L E fb ab F a fv lv wv∧Tch (FdD lo E) w W) (h1:lo + 3≤L) (hm:MemAt W' 82 lo b m') (ht:Touch lo W W') (hC:m'.C=m.C) (hL:m'.L=m.L):FdbAt W' lo b fb F m'∧FactIn W' L E fb ab F a fv lv wv∧Tch (FdD lo E) w W' :=
 ⟨h.1.memory hm ht hC hL,h.2.1.touch ht h1,h.2.2.ftouch ht⟩
end
end
section
open Go.RowKit
section
variable {w:World}
set_option maxHeartbeats 800000 in
theorem fdb_hasNil (s n:Int):Calls Try.prog 52 #[.pointer none,.int .i64 s,.int .i64 n] w fun e w' => e=.returned (.bool false)∧w=w':=by
 go_enter Try.func52,Try.ntmps52
 go_wp2
 go_ret
 exact ⟨by first | rfl | (simp; done),rfl⟩
set_option maxHeartbeats 800000 in
theorem fdb_ofNil (who v:Int) (mc:Nat) (fv:Value) :
  Calls Try.prog 49 #[.pointer none,.int .i64 who,.agg #[.int .i64 v,.int .u64 (mc:Int)],fv] w (Says (.pointer none) w):=by
 go_enter Try.func49,Try.ntmps49
 go_wp2_with (first
  | go_big_skip
  | fail)
 go_wp2
 go_ret
 exact ⟨rfl,by first | exact (Below.refl _ _).alloc (Nat.le_refl _) _ | exact below_drewN ((Below.refl _ _).alloc (Nat.le_refl _) _) _⟩
set_option maxHeartbeats 800000 in
theorem fdb_LookupNil (who v:Int) (mc:Nat) :
  Calls Try.prog 17 #[.pointer none,.int .i64 who,.agg #[.int .i64 v,.int .u64 (mc:Int)]] w (Says (.pointer none) w):=by
 have HO:=Lib.hid fun W fv => fdb_ofNil (w:=W) who v mc fv
 go_enter Try.func17,Try.ntmps17
 go_wp2_with fail
 refine (HO.out _ _).mono ?_
 rintro e w1 ⟨rfl,hb1⟩
 have HB1:=Lib.hid (((Below.refl w.heap.size w).alloc (Nat.le_refl _) _).trans (hb1.mono (by simp)))
 clear hb1
 go_wp2
 go_ret
 exact ⟨rfl,HB1.out⟩
set_option maxHeartbeats 800000 in
theorem fdb_BucketNil (s n:Int) :
  Calls Try.prog 19 #[.pointer none,.int .i64 s,.int .i64 n] w (Says (.slice none 0 0) w):=by
 have HH:=Lib.hid fun W => fdb_hasNil (w:=W) s n
 go_enter Try.func19,Try.ntmps19
 go_wp2_with fail
 refine (HH.out _).mono ?_
 rintro e w1 ⟨rfl,rfl⟩
 go_wp2
 go_ret
 exact ⟨rfl,Below.refl _ _⟩
end
end
end Go.Proofs.Ythloabdfkakehaa
