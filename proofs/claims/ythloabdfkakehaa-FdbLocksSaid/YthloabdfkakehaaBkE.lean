/-
  Words and contracts that a statement's proof rests on (Words, BkD, BkE, SlotC, BuN, BuO, BkF, BkG, BkH, BkJ, TicksB, BuQ, BkK, OpenI). No statement is proved here.
-/
import Derived.Deep.RegionHeld3
import Derived.Test.YthloabdfkakehaaTicks
import Derived.Test.YthloabdfkakehaaKeyB
import Derived.Test.YthloabdfkakehaaBuG
import Derived.Test.YthloabdfkakehaaBuF
import Derived.Test.YthloabdfkakehaaBuH
import Derived.Test.YthloabdfkakehaaBuI
import Derived.Test.YthloabdfkakehaaSlotB
import Derived.Test.YthloabdfkakehaaKeyC
set_option linter.unusedVariables false
set_option linter.unusedSimpArgs false
namespace Go.Proofs.Ythloabdfkakehaa
section
open Go.RowKit Go.WideShapes Go.ChangeShapes
def kv (k:IntKind) (l:List Int):List Value:=l.map fun n => .int k n
theorem kv_length (k:IntKind) (l:List Int):(kv k l).length=l.length:=by simp [kv]
section
variable {H:Type} {enc:TypeId × Value→H} {P:Program} {w:World} {held:Bool}
theorem open_kinds {κ:IntKind} {r:Reach} {b0:Nat} {t e:TypeId} {v:Value} {d:DataW H} {ps:List MemPlace} (ht:P.underlying t=some (.slice e)) (he:P.underlying e=some (.int κ)) (hc:P.cellsOf e=1)
  (hval:Value.okWide P w r b0 t v) (hd:DataW.Trod enc P w 0 (fun _ => true) held t v d ps) :
  ∃ l:List Int,Sl w w.heap.size 1 v l.length (kv κ l)∧∀ x ∈ l,(Lit.int κ x).wf=true:=by
 obtain ⟨a,len,cap,rfl⟩:=okWide_slice ht hval
 obtain ⟨fuel,hf⟩:=hd
 rcases open_ints ht he hc hf with ⟨hcs,_⟩ | ⟨x,l,c,zs,hcs,_,hl,hm,hz,_,hcell,hwz⟩
 ·simp [Value.cells] at hcs
  obtain ⟨rfl,rfl,rfl⟩:=hcs
  exact ⟨[],Sl.nil _ _ _,by simp⟩
 ·simp [Value.cells] at hcs
  obtain ⟨rfl,rfl,rfl⟩:=hcs
  simp only [if_true] at hz
  have hlen:(zs.take len).length=len:=by rw [List.length_take]; omega
  refine ⟨zs.take len,?_,fun x hx => hwz x (List.mem_of_mem_take hx)⟩
  refine ⟨by simp [kv_length],some x,cap,by rw [hlen],by omega,hm,fun hn => ?_⟩
  obtain ⟨b,off,spot⟩:=x
  have h0:=hcell 0 (by omega)
  have hspot:spot=none:=by simpa [Addr.add] using World.cell?_spot h0
  subst hspot
  refine ⟨b,off,rfl,World.block_lt_of_cell? w _ (by simpa [Addr.add] using h0),fun j hj => ?_⟩
  rw [hlen,Nat.mul_one] at hj
  have hj2:j < zs.length:=by omega
  have h1:=hcell j hj2
  have hadd:(⟨b,off,none⟩:Addr).add j=⟨b,off + j,none⟩:=by unfold Addr.add; split <;> simp_all
  rw [hadd] at h1
  rw [h1]
  simp [kv,List.getD_eq_getElem?_getD,List.getElem?_map,hj,List.getElem?_eq_getElem hj2]
end
end
section
open Go.RowKit
def inB (x y:Int):Bool:=decide (1≤x) && decide (x≤y)
def rightS (a b c:Int):Bool:=(inB a 8 && inB b 16) && inB c 8
set_option maxHeartbeats 800000 in
theorem book_within (x y:Int) (w:World) :
  Calls Try.prog 80 #[.int .i64 x,.int .i64 y] w (Says (.bool (inB x y)) w):=by
 unfold inB
 by_cases h:1≤x
 ·have d:decide (1≤x)=true:=by simpa using h
  rw [d]
  by_cases h2:x≤y
  ·have d2:decide (x≤y)=true:=by simpa using h2
   rw [d2]
   clear d d2
   go_enter Try.func80,Try.ntmps80
   go_wp2
   go_ret
   exact ⟨by simp,Below.refl _ _⟩
  ·have d2:decide (x≤y)=false:=by simpa using h2
   rw [d2]
   clear d d2
   go_enter Try.func80,Try.ntmps80
   go_wp2
   go_ret
   exact ⟨by simp,Below.refl _ _⟩
 ·have d:decide (1≤x)=false:=by simpa using h
  rw [d]
  clear d
  go_enter Try.func80,Try.ntmps80
  go_wp2
  go_ret
  exact ⟨by simp,Below.refl _ _⟩
set_option maxHeartbeats 3200000 in
theorem book_Right (a b c:Int) (w:World) :
  Calls Try.prog 43 #[.agg #[.int .i64 a,.int .i64 b,.int .i64 c]] w (Says (.bool (rightS a b c)) w):=by
 have H1:=Lib.hid fun W => book_within a 8 W
 have H2:=Lib.hid fun W => book_within b 16 W
 have H3:=Lib.hid fun W => book_within c 8 W
 unfold rightS
 generalize inB a 8=x at *
 generalize inB b 16=y at *
 generalize inB c 8=z at *
 cases x
 ·go_enter Try.func43,Try.ntmps43
  go_wp2_with fail
  refine (H1.out _).mono ?_
  rintro e w1 ⟨rfl,hb⟩
  have HB1:Hid (Below w.heap.size w w1):=Below.trans ((Below.refl _ _).alloc (Nat.le_refl _) _) (hb.mono (by simp))
  clear hb
  go_wp2
  go_ret
  exact ⟨by simp,HB1.out⟩
 ·cases y
  ·go_enter Try.func43,Try.ntmps43
   go_wp2_with fail
   refine (H1.out _).mono ?_
   rintro e w1 ⟨rfl,hb⟩
   have HB1:Hid (Below w.heap.size w w1):=Below.trans ((Below.refl _ _).alloc (Nat.le_refl _) _) (hb.mono (by simp))
   have k1:w1.cell? ⟨w.heap.size,1,none⟩=some (.int .i64 b):=by rw [(bcell hb).1 _ _ (by simp)]; simp [go_sem]
   clear hb
   go_wp2_with fail
   refine (H2.out _).mono ?_
   rintro e w2 ⟨rfl,hb⟩
   have HB2:Hid (Below w.heap.size w w2):=HB1.out.trans (hb.mono HB1.out.size)
   clear hb
   go_wp2
   go_ret
   exact ⟨by simp,HB2.out⟩
  ·go_enter Try.func43,Try.ntmps43
   go_wp2_with fail
   refine (H1.out _).mono ?_
   rintro e w1 ⟨rfl,hb⟩
   have HB1:Hid (Below w.heap.size w w1):=Below.trans ((Below.refl _ _).alloc (Nat.le_refl _) _) (hb.mono (by simp))
   have k1:w1.cell? ⟨w.heap.size,1,none⟩=some (.int .i64 b):=by rw [(bcell hb).1 _ _ (by simp)]; simp [go_sem]
   have k2:w1.cell? ⟨w.heap.size,2,none⟩=some (.int .i64 c):=by rw [(bcell hb).1 _ _ (by simp)]; simp [go_sem]
   have hz:w.heap.size + 1≤w1.heap.size:=by have:=hb.size; simpa using this
   clear hb
   go_wp2_with fail
   refine (H2.out _).mono ?_
   rintro e w2 ⟨rfl,hb⟩
   have HB2:Hid (Below w.heap.size w w2):=HB1.out.trans (hb.mono HB1.out.size)
   have k2:=((bcell hb).1 w.heap.size 2 (by omega)).trans k2
   clear hb
   go_wp2_with fail
   refine (H3.out _).mono ?_
   rintro e w3 ⟨rfl,hb⟩
   have HB3:Hid (Below w.heap.size w w3):=HB2.out.trans (hb.mono HB2.out.size)
   clear hb
   go_wp2
   go_ret
   exact ⟨by simp,HB3.out⟩
end
section
open Go.RowKit
end
section
open Go.RowKit
theorem tgt_on' {W:World} {g:Nat} {cs:Array Value} {t:TypeId} (h:W.heap[g]?=some (.cells cs t)) (i:Nat) (v:Value) (hv:cs[i]?=some v):W.cell? ⟨g,i,none⟩=some v:=by
 simp [World.cell?,h,hv]
theorem tgt_free' {W:World} {g:Nat} {cs:Array Value} {t:TypeId} (h:W.heap[g]?=some (.cells cs t)) (i:Nat):W.frozen? ⟨g,i,none⟩=false:=by
 simp [World.frozen?,h]
end
section
open Go.RowKit
end
section
open Go.RowKit
end
section
open Go.RowKit
end
section
open Go.RowKit
def R1:Nat→Pl:=(putF (fun _ => ownP pl0) ⟨1,2,3,false,5⟩ 5 1).1
def R2:Nat→Pl:=(putF (fun i => ownP (R1 i)) ⟨1,4,1,false,6⟩ 6 1).1
def g1:Nat→Nat→Pl:=updR (fun _ _ => pl0) 0 R1
def g2:Nat→Nat→Pl:=updR g1 0 R2
end
section
open Go.RowKit
theorem kind7 (kd:Int):∃ K:Nat,K < 7∧wrap64 ((IntKind.u64.wrap kd).tmod 7)=(K:Int)∧IntKind.i64.wrap ((IntKind.u64.wrap kd).tmod 7)=(K:Int):=by
 have h1:0≤IntKind.u64.wrap kd:=by rw [IntKind.wrap_u64]; omega
 rw [Int.tmod_eq_emod_of_nonneg h1]
 refine ⟨(IntKind.u64.wrap kd % 7).toNat,by omega,?_,?_⟩
 ·rw [IntWalk.wrap64_in _ (by omega)]; omega
 ·rw [IntWalk.i64_in _ (by omega)]; omega
set_option maxHeartbeats 800000 in
theorem law11_To (a b c:Int) (w:World) :
  Calls Try.prog 8 #[.agg #[.int .i64 a,.int .i64 b,.int .i64 c]] w (Says (.agg #[.int .i64 a,.int .i64 b,.int .i64 c]) w):=by
 go_enter Try.func8,Try.ntmps8
 go_wp2
 exact bodyPost_ret (v:=.agg #[.int .i64 a,.int .i64 b,.int .i64 c]) (by simp [results,Try.results8,go_sem]) rfl ⟨rfl,(by (repeat' (first | (with_reducible exact Below.refl _ _) | (with_reducible refine Below.setCell ?_ ?_ _) | (with_reducible refine Below.alloc ?_ ?_ _) | go_size)))⟩
set_option maxHeartbeats 6400000 in
theorem ref11_Right (a b c:Int) (w:World) :
  Calls Try.prog 9 #[.agg #[.int .i64 a,.int .i64 b,.int .i64 c]] w (Says (.bool (rightS a b c)) w):=by
 unfold rightS inB
 by_cases h1:1≤a
 ·have d1:decide (1≤a)=true:=by simpa using h1
  by_cases h2:a≤8
  ·have d2:decide (a≤8)=true:=by simpa using h2
   by_cases h3:1≤b
   ·have d3:decide (1≤b)=true:=by simpa using h3
    by_cases h4:b≤16
    ·have d4:decide (b≤16)=true:=by simpa using h4
     by_cases h5:1≤c
     ·have d5:decide (1≤c)=true:=by simpa using h5
      by_cases h6:c≤8
      ·have d6:decide (c≤8)=true:=by simpa using h6
       rw [d1,d2,d3,d4,d5,d6]
       clear d1 d2 d3 d4 d5 d6
       go_enter Try.func9,Try.ntmps9
       go_wp2
       go_ret
       exact ⟨by simp,(Below.refl _ _).alloc (Nat.le_refl _) _⟩
      ·have d6:decide (c≤8)=false:=by simpa using h6
       rw [d1,d2,d3,d4,d5,d6]
       clear d1 d2 d3 d4 d5 d6
       go_enter Try.func9,Try.ntmps9
       go_wp2
       go_ret
       exact ⟨by simp,(Below.refl _ _).alloc (Nat.le_refl _) _⟩
     ·have d5:decide (1≤c)=false:=by simpa using h5
      rw [d1,d2,d3,d4,d5]
      clear d1 d2 d3 d4 d5
      go_enter Try.func9,Try.ntmps9
      go_wp2
      go_ret
      exact ⟨by simp,(Below.refl _ _).alloc (Nat.le_refl _) _⟩
    ·have d4:decide (b≤16)=false:=by simpa using h4
     rw [d1,d2,d3,d4]
     clear d1 d2 d3 d4
     go_enter Try.func9,Try.ntmps9
     go_wp2
     go_ret
     exact ⟨by simp,(Below.refl _ _).alloc (Nat.le_refl _) _⟩
   ·have d3:decide (1≤b)=false:=by simpa using h3
    rw [d1,d2,d3]
    clear d1 d2 d3
    go_enter Try.func9,Try.ntmps9
    go_wp2
    go_ret
    exact ⟨by simp,(Below.refl _ _).alloc (Nat.le_refl _) _⟩
  ·have d2:decide (a≤8)=false:=by simpa using h2
   rw [d1,d2]
   clear d1 d2
   go_enter Try.func9,Try.ntmps9
   go_wp2
   go_ret
   exact ⟨by simp,(Below.refl _ _).alloc (Nat.le_refl _) _⟩
 ·have d1:decide (1≤a)=false:=by simpa using h1
  rw [d1]
  clear d1
  go_enter Try.func9,Try.ntmps9
  go_wp2
  go_ret
  exact ⟨by simp,(Below.refl _ _).alloc (Nat.le_refl _) _⟩
end
section
open Go.RowKit
def flR (a b:Int) (f:Nat→Pl):Nat→Pl:=sweepF (fun i => ownP (f i)) (hitE a b)
def flN (a b:Int) (f:Nat→Pl) (n:Nat):Nat:=goneF (fun i => ownP (f i)) (hitE a b) n
theorem BkAt.congr {w:World} {D:Nat→Prop} {p q S B n:Nat} {g g':Nat→Nat→Pl} (h:BkAt w D p q S B n g) (hg:∀ i,i < S * B→g i=g' i):BkAt w D p q S B n g':=by
 obtain ⟨h0,h1,h2,h3,h4,h5,h6,h9,h10⟩:=h
 refine ⟨h0,h1,h2,h3,h4,h5,h6,h9,fun i hi => ?_⟩
 obtain ⟨v,hv,hr⟩:=h10 i hi
 exact ⟨v,hv,by rw [← hg i hi]; exact hr⟩
end
section
open Go.RowKit
end
section

end
section
open Go.RowKit
end
section
open Go.ChangeShapes Go.WideShapes Go.RowKit
section
variable {H:Type} {enc:TypeId × Value→H} {P:Program} {w:World} {held:Bool}
theorem open_i64s {r:Reach} {b0:Nat} {t e:TypeId} {v:Value} {d:DataW H} {ps:List MemPlace} (ht:P.underlying t=some (.slice e)) (he:P.underlying e=some (.int .i64)) (hc:P.cellsOf e=1)
  (hval:Value.okWide P w r b0 t v) (hd:DataW.Trod enc P w 0 (fun _ => true) held t v d ps) :
  ∃ l:List Int,Sl w w.heap.size 1 v l.length (kv .i64 l)∧∀ x ∈ l,-9223372036854775808≤x∧x≤9223372036854775807:=by
 obtain ⟨l,h,hl⟩:=open_kinds ht he hc hval hd
 exact ⟨l,h,fun x hx => Go.bounds_i64 (hl x hx)⟩
end
end
end Go.Proofs.Ythloabdfkakehaa
