/-
  Words and contracts that a statement's proof rests on (Words, Row, RowH, TicksB, BuQ, SrA, HiI). No statement is proved here.
-/
import Derived.Deep.OwnRows
import Derived.IntWalk
import Derived.Test.YtfekhdgjgjodlaaTicks
import Derived.Test.YtfekhdgjgjodlaaBuG
import Derived.Test.YtfekhdgjgjodlaaBuI
import Derived.Test.YtfekhdgjgjodlaaPlainPt
import Derived.Test.YtfekhdgjgjodlaaPlainSu
set_option linter.unusedVariables false
set_option linter.unusedSimpArgs false
namespace Go.Proofs.Ytfekhdgjgjodlaa
section
open Go.RowKit Go.WideShapes Go.ChangeShapes
def kv (k:IntKind) (l:List Int):List Value:=l.map fun n => .int k n
def uv (l:List Nat):List Value:=l.map fun (n:Nat) => .int .u32 (n:Int)
section
variable {H:Type} {enc:TypeId × Value→H} {P:Program} {w:World} {held:Bool}
end
end
section
open Go.RowKit
theorem rowIs_mk {w:World} {g M:Nat} {z:Value} {e:TypeId} (hz:z.cells=#[z]) (hg:w.heap.size=g):(w.alloc (.cells (mkC z 1 M) e)).rowIs g e M (fun _ => z):=by
 subst hg
 unfold mkC
 rw [hz,Nat.mul_one]
 exact World.rowIs_made w z M e
theorem rowIs_own {w:World} {B g M:Nat} {e:TypeId} {f:Nat→Value} (h:w.rowIs g e M f) (hB:B≤g) (hM:M≤maxLen):w.ownsRow B e 1 (.slice (some ⟨g,0,none⟩) M M) M ((List.range M).map f):=by
 obtain ⟨cs,h1,h2,h3⟩:=h
 refine own_full h1 hB h2 hM ?_
 apply List.ext_getElem
 ·simp [h2]
 ·intro i hi1 hi2
  simp at hi1 hi2
  have:=h3 i (by omega)
  rw [Array.getElem?_eq_getElem hi1] at this
  simp at this
  simp [this]
def Ints (l:List Int) (w:World) (e:Ending) (w':World):Prop :=
 ∃ A cap,e=.returned (.slice A l.length cap)∧Sl w' w'.heap.size 1 (.slice A l.length cap) l.length (kv .i64 l)∧Below w.heap.size w w'
theorem Ints.nil (w w':World) (h:Below w.heap.size w w'):Ints [] w (.returned (.slice none 0 0)) w':=⟨none,0,rfl,by simpa [kv] using Sl.nil _ _ _,h⟩
theorem Ints.row {w w':World} {g M:Nat} {e:TypeId} {f:Nat→Int} {l:List Int} (h:w'.rowIs g e M (fun j => .int .i64 (f j))) (hl:l=(List.range M).map f) (hM:M≤maxLen) (hb:Below w.heap.size w w') :
  Ints l w (.returned (.slice (some ⟨g,0,none⟩) M M)) w':=by
 have hlen:l.length=M:=by rw [hl]; simp
 refine ⟨some ⟨g,0,none⟩,M,by rw [hlen],?_,hb⟩
 rw [hlen]
 have:=Sl.of_own (rowIs_own h (Nat.zero_le _) hM)
 rw [hl]
 unfold kv
 rw [List.map_map]
 exact this
end
section
open Go.RowKit
def rowH (w:World) (b:Nat) (T:TypeId) (n:Nat) (f:Nat→Value):Prop:=∃ m F,w.rowIs b T m F∧n≤m∧∀ i,i < n→F i=f i
section
variable {w w':World} {b n:Nat} {T:TypeId} {f g:Nat→Value}
theorem rowH.of (h:w.rowIs b T n f):rowH w b T n f:=⟨n,f,h,Nat.le_refl _,fun _ _ => rfl⟩
theorem rowH.cell (h:rowH w b T n f) {i:Nat} (hi:i < n):w.cell? ⟨b,i,none⟩=some (f i):=by
 obtain ⟨m,F,h1,h2,h3⟩:=h
 rw [h1.cell (Nat.lt_of_lt_of_le hi h2),h3 i hi]
theorem rowH.frozen (h:rowH w b T n f) (i:Nat):w.frozen? ⟨b,i,none⟩=false:=by
 obtain ⟨m,F,h1,_⟩:=h
 exact h1.frozen i
theorem rowH.lt (h:rowH w b T n f):b < w.heap.size:=by
 obtain ⟨m,F,h1,_⟩:=h
 exact h1.lt
theorem rowH.of_block (h:rowH w b T n f) (e:w'.heap[b]?=w.heap[b]?):rowH w' b T n f:=by
 obtain ⟨m,F,h1,h2⟩:=h
 exact ⟨m,F,h1.of_block e,h2⟩
theorem rowH.congr (h:rowH w b T n f) (e:∀ i,i < n→f i=g i):rowH w b T n g:=by
 obtain ⟨m,F,h1,h2,h3⟩:=h
 exact ⟨m,F,h1,h2,fun i hi => (h3 i hi).trans (e i hi)⟩
theorem rowH.set (h:rowH w b T n f) (i:Nat) (v:Value):rowH (w.setCell ⟨b,i,none⟩ v) b T n (fun j => if j=i then v else f j):=by
 obtain ⟨m,F,h1,h2,h3⟩:=h
 refine ⟨m,_,h1.set i v,h2,fun j hj => ?_⟩
 show (if j=i then v else F j)=if j=i then v else f j
 split
 ·rfl
 ·exact h3 j hj
end
end
section
open Go.RowKit
end
section

end
section
open Go.RowKit
theorem cmp_isNaN (x:Int) (w:World):Calls Try.prog 17 #[.int .i64 x] w (Says (.bool false) w):=by
 go_enter Try.func17,Try.ntmps17
 go_wp2
 go_ret
 exact ⟨by simp,Below.refl _ _⟩
def cmpN (x y:Int):Int:=if x < y then -1 else if y < x then 1 else 0
theorem cmpN_neg (x y:Int):cmpN x y < 0 ↔ x < y:=by
 unfold cmpN
 split
 ·simp; assumption
 ·split <;> simp <;> omega
theorem cmp_Compare (x y:Int) (w:World):Calls Try.prog 10 #[.int .i64 x,.int .i64 y] w (Says (.int .i64 (cmpN x y)) w):=by
 have HN:=Lib.hid fun x w => cmp_isNaN x w
 have HB:Hid (Below w.heap.size w w):=Below.refl _ _
 obtain ⟨c,hc⟩:∃ c,c=cmpN x y:=⟨_,rfl⟩
 rw [← hc]
 unfold cmpN at hc
 have d:(decide (x < y)=true∧c=-1) ∨ (decide (x < y)=false∧decide (x > y)=true∧c=1) ∨ (decide (x < y)=false∧decide (x > y)=false∧c=0):=by
  rcases Int.lt_trichotomy x y with h | h | h
  ·exact .inl ⟨decide_eq_true h,by rw [hc,if_pos h]⟩
  ·exact .inr (.inr ⟨decide_eq_false (by omega),decide_eq_false (by omega),by rw [hc,if_neg (by omega),if_neg (by omega)]⟩)
  ·exact .inr (.inl ⟨decide_eq_false (by omega),decide_eq_true (by omega),by rw [hc,if_neg (by omega),if_pos h]⟩)
 clear hc
 rcases d with ⟨d1,rfl⟩ | ⟨d1,d2,rfl⟩ | ⟨d1,d2,rfl⟩
 all_goals
  go_enter Try.func10,Try.ntmps10
  go_wp2_with (first
   | (go_at_call 17; (with_reducible refine Calls.mono (HN.out _ _) ?_); rintro e w1 ⟨rfl,hb1⟩; (have HB:=Lib.hid (HB.out.trans (hb1.mono HB.out.size))); clear hb1)
   | fail)
  go_ret
  exact ⟨by first | rfl | (simp; done),HB.out⟩
structure MkAt (w:World) (pb lb N:Nat) (key:Nat→Int):Prop where
 lt:lb < w.heap.size
 ne:lb ≠ pb
 row:∃ A c,w.cell? ⟨lb,0,none⟩=some (.slice A N c)∧(0 < N→∃ b off,A=some ⟨b,off,none⟩∧b < w.heap.size∧b ≠ pb∧∀ i,i < N→w.cell? ⟨b,off + i * 19 + 2,none⟩=some (.int .i64 (key i)))
theorem MkAt.but {w w':World} {pb lb N:Nat} {key:Nat→Int} (h:MkAt w pb lb N key) (hb:But pb w w'):MkAt w' pb lb N key:=by
 obtain ⟨h1,h6,A,c,h2,h3⟩:=h
 refine ⟨Nat.lt_of_lt_of_le h1 hb.below.size,h6,A,c,(hb.cell h1 h6).trans h2,fun hn => ?_⟩
 obtain ⟨b,off,e,h4,h7,h5⟩:=h3 hn
 exact ⟨b,off,e,Nat.lt_of_lt_of_le h4 hb.below.size,h7,fun i hi => (hb.cell (p:=⟨b,off + i * 19 + 2,none⟩) h4 h7).trans (h5 i hi)⟩
set_option maxRecDepth 20000 in
set_option maxHeartbeats 1600000 in
theorem hist_Order1 {w:World} {pb lb N:Nat} {key:Nat→Int} (h:MkAt w pb lb N key) (x y:Nat) (hx:x < N) (hy:y < N):Calls Try.prog 9 #[.int .i64 (x:Nat),.int .i64 (y:Nat),.pointer (some ⟨lb,0,none⟩)] w (Says (.int .i64 (cmpN (key x) (key y))) w):=by
 have HC:=Lib.hid fun w' => cmp_Compare (key x) (key y) w'
 obtain ⟨h1,_,A,c,h2,h3⟩:=h
 obtain ⟨b,off,rfl,h4,_,h5⟩:=h3 (by omega)
 have k1:=h5 x hx
 have k2:=h5 y hy
 have g1:(0:Int)≤(x:Int):=Int.natCast_nonneg _
 have g2:(x:Int) < (N:Int):=by omega
 have g3:(0:Int)≤(y:Int):=Int.natCast_nonneg _
 have g4:(y:Int) < (N:Int):=by omega
 have HLT:=Lib.hid (And.intro h1 h4)
 clear h3 h5
 go_enter Try.func9,Try.ntmps9
 go_wp2_with fail
 refine wp_region_held_drew (S:=fun w' => w'.cell? ⟨lb,0,none⟩=some (.slice (some ⟨b,off,none⟩) N c)∧w'.cell? ⟨b,off + x * 19 + 2,none⟩=some (.int .i64 (key x))∧w'.cell? ⟨b,off + y * 19 + 2,none⟩=some (.int .i64 (key y))) (by kernel_rfl) ?_ (fun hHeld => ?_)
 ·exact ⟨h2,k1,k2⟩
 obtain ⟨v0,hv0⟩:∃ w',w'=w.drew:=⟨_,rfl⟩
 have hvb:Below w.heap.size w v0:=by rw [hv0]; exact (Below.refl _ _).drew
 rw [← hv0] at hHeld ⊢
 clear hv0
 refine tkR 0 rfl ?_
 refine tkR 1 rfl ?_
 refine tkR 2 rfl ?_
 refine tkR 3 rfl ?_
 refine tkR 4 rfl ?_
 refine tkR 5 rfl ?_
 refine tkR 6 rfl ?_
 refine tkR 7 rfl ?_
 refine tkR 8 rfl ?_
 refine tkR 9 rfl ?_
 refine clR 10 rfl fun K hK => ?_
 go_simp
 refine Calls.mono (HC.out _) ?_
 rintro e w1 ⟨rfl,hb1⟩
 have HB:=Lib.hid (hvb.trans (hb1.mono hvb.size))
 clear hb1
 refine hK.out _ _ ?_ (fun hHeld => ?_)
 ·(try dsimp only)
  exact ⟨(HB.out.cell (p:=⟨lb,0,none⟩) HLT.out.1).trans h2,(HB.out.cell (p:=⟨b,off + x * 19 + 2,none⟩) HLT.out.2).trans k1,(HB.out.cell (p:=⟨b,off + y * 19 + 2,none⟩) HLT.out.2).trans k2⟩
 clear hK K
 refine tkR 11 rfl ?_
 refine wpAnyH_done (by kernel_rfl) ?_ _
 go_wp2
 go_ret
 exact ⟨by first | rfl | (simp; done),HB.out⟩
end
section
open Go.RowKit
theorem kv_length9 (κ:IntKind) (l:List Int):(kv κ l).length=l.length:=by simp [kv]
theorem kv_getElem9 (κ:IntKind) (l:List Int) (k:Nat) (h:k < l.length):(kv κ l)[k]?=some (.int κ (l.getD k 0)):=by
 simp [kv,List.getD_eq_getElem?_getD,List.getElem?_eq_getElem h]
set_option maxHeartbeats 800000 in
theorem law3_IntsEq9 {l:List Int} {n:Nat} {u v:Value} {w:World} {B B':Nat} (hu:Sl w B 1 u n (kv .i64 l)) (hv:Sl w B' 1 v n (kv .i64 l)) :
  Calls Try.prog 15 #[u,v] w (fun e w' => e=.returned (.bool true)∧∃ n,w'=w.drewN n):=by
 have hlen:l.length=n:=by have:=hu.len; rw [kv_length9] at this; omega
 obtain ⟨_,A,cap,rfl,hA1,hA2,hA⟩:=hu
 obtain ⟨_,A',cap',rfl,hA1',hA2',hA'⟩:=hv
 unfold maxLen at hA2 hA2'
 have hne:((n:Int) != (n:Int))=false:=by simp
 have HL:=Lib.hid hlen
 have HA:=Lib.hid hA
 have HA':=Lib.hid hA'
 clear hlen hA hA'
 go_enter Try.func15,Try.ntmps15
 go_wp2
 go_loopw [5] (fun i wr => ∃ k:Nat,k≤n∧i=.int .i64 k∧∃ m,wr=w.drewN m) (fun i _ => n - (intOf i).toNat)
 case atStart => exact ⟨0,by omega,rfl,0,rfl⟩
 case round =>
  obtain ⟨k,hk,rfl,m,rfl⟩:=hrel
  by_cases hlt:k < n
  ·obtain ⟨b,off,rfl,_,hc⟩:=HA.out (by omega)
   obtain ⟨b',off',rfl,_,hc'⟩:=HA'.out (by omega)
   have hx:=kv_getElem9 .i64 l k (by have:=HL.out; omega)
   have hcell:=(hc k (by omega)).trans hx
   have hcell':=(hc' k (by omega)).trans hx
   clear hc hc' HA HA' hx
   have g0:(0:Int)≤(k:Int):=Int.natCast_nonneg _
   have g1:(k:Int) < (n:Int):=by omega
   generalize l.getD k 0=x at *
   go_wp2_with fail
   go_quiet (fail)
   go_wp2
   go_roundw
   case rel => exact ⟨k + 1,by omega,by go_num,_,(by first | rfl | exact World.drewN_drewN _ _ _)⟩
   case measure => simp [intOf]; omega
  ·have:k=n:=by omega
   subst this
   go_wp2
   go_ret
   exact ⟨rfl,_,rfl⟩
theorem below_drew9 {B:Nat} {a w:World} (h:Below B a w) (n:Nat):Below B a (w.drewN n):=⟨h.os,h.tape,h.output,h.size,h.block⟩
theorem ints_lit0 (w:World) (T:TypeId):Sl (w.alloc (.cells #[.int .i64 0] T)) (w.heap.size + 1) 1 (.slice (some ⟨w.heap.size,0,none⟩) 1 1) 1 (kv .i64 [0]):=Sl.lit w #[.int .i64 0] _ 1 rfl (by decide)
end
end Go.Proofs.Ytfekhdgjgjodlaa
