/-
  Words and contracts that a statement's proof rests on (BkA, BkB, BkC, BkI, BkD, BkE, BuO, BkF, BkG, BkH, BkJ, BkK). No statement is proved here.
-/
import Derived.Deep.RegionHeld3
import Derived.Test.YthloabdfkakehaaGreatRgA
import Derived.Test.YthloabdfkakehaaGreatPlainBu
import Derived.Test.YthloabdfkakehaaGreatBuB
import Derived.Test.YthloabdfkakehaaGreatBuH
import Derived.Test.YthloabdfkakehaaGreatBuI
import Derived.Test.YthloabdfkakehaaGreatSlotC
import Derived.Test.YthloabdfkakehaaGreatOpen
set_option linter.unusedVariables false
set_option linter.unusedSimpArgs false
namespace Go.Proofs.YthloabdfkakehaaGreat
section
open Go.RowKit
def PlRowD (w:World) (D:Nat→Prop) (v:Value) (n:Nat) (f:Nat→Pl):Prop :=
 ∃ A cap,v=.slice A n cap∧n≤cap∧cap≤maxLen∧(0 < n→∃ b off,A=some ⟨b,off,none⟩∧b < w.heap.size∧¬ D b∧∀ j,j < n→plHolds w b (off + j * 6) (f j))
theorem PlRowD.row {w:World} {D:Nat→Prop} {v:Value} {n:Nat} {f:Nat→Pl} (h:PlRowD w D v n f):PlRow w w.heap.size v n f:=by
 obtain ⟨A,cap,hv,h1,h2,h3⟩:=h
 refine ⟨A,cap,hv,h1,h2,fun hn => ?_⟩
 obtain ⟨b,off,e,hb,_,hc⟩:=h3 hn
 exact ⟨b,off,e,hb,hc⟩
theorem PlRowD.of_own {w:World} {D:Nat→Prop} {T:TypeId} {B n:Nat} {v:Value} {f:Nat→Pl} (h:RowOf w T B v n f) (hD:∀ b,D b→b < B):PlRowD w D v n f:=by
 obtain ⟨A,cap,hv,h1,h2,h3⟩:=h
 refine ⟨A,cap,hv,h1,h2,fun hn => ?_⟩
 obtain ⟨g,F,e,hg,hr,hF⟩:=h3 hn
 exact ⟨g,0,e,hr.lt,fun hd => by have:=hD g hd; omega,fun j hj => by rw [Nat.zero_add]; exact rowG_holds hr (by omega) hF hj⟩
theorem PlRowD.but {w w':World} {D:Nat→Prop} {v:Value} {n q:Nat} {f:Nat→Pl} (h:PlRowD w D v n f) (hb:But q w w') (hq:D q):PlRowD w' D v n f:=by
 obtain ⟨A,cap,hv,h1,h2,h3⟩:=h
 refine ⟨A,cap,hv,h1,h2,fun hn => ?_⟩
 obtain ⟨b,off,e,hbb,hd,hc⟩:=h3 hn
 exact ⟨b,off,e,Nat.lt_of_lt_of_le hbb hb.below.size,hd,fun j hj => (hc j hj).keep fun p hp => hb.cell (by rw [hp]; exact hbb) (by rw [hp]; intro e; exact hd (by rw [e]; exact hq))⟩
theorem PlRowD.congr {w:World} {D:Nat→Prop} {v:Value} {n:Nat} {f g:Nat→Pl} (h:PlRowD w D v n f) (hfg:∀ i,i < n→f i=g i):PlRowD w D v n g:=by
 obtain ⟨A,cap,hv,h1,h2,h3⟩:=h
 refine ⟨A,cap,hv,h1,h2,fun hn => ?_⟩
 obtain ⟨b,off,e,hb',hd,hc⟩:=h3 hn
 exact ⟨b,off,e,hb',hd,fun j hj => by rw [← hfg j hj]; exact hc j hj⟩
def BkAt (w:World) (D:Nat→Prop) (p q S B n:Nat) (g:Nat→Nat→Pl):Prop :=
 p < w.heap.size∧q < w.heap.size∧p ≠ q∧w.cell? ⟨p,0,none⟩=some (.int .i64 (S:Nat))∧w.cell? ⟨p,1,none⟩=some (.int .i64 (B:Nat))∧w.cell? ⟨p,2,none⟩=some (.int .i64 (n:Nat)) ∧
  (∃ cap,S * B≤cap∧cap≤maxLen∧w.cell? ⟨p,3,none⟩=some (.slice (some ⟨q,0,none⟩) (S * B) cap))∧(∀ o,w.frozen? ⟨q,o,none⟩=false) ∧
  ∀ i,i < S * B→∃ v,w.cell? ⟨q,i,none⟩=some v∧PlRowD w D v n (g i)
theorem BkAt.keep {w w':World} {D:Nat→Prop} {p q S B n:Nat} {g:Nat→Nat→Pl} (h:BkAt w D p q S B n g) (hz:w.heap.size≤w'.heap.size) (hk:∀ b,b < w.heap.size→(b=p ∨ b=q ∨ ¬ D b)→w'.heap[b]?=w.heap[b]?):BkAt w' D p q S B n g:=by
 obtain ⟨h0,h1,h2,h3,h4,h5,⟨cap,h6,h7,h8⟩,h9,h10⟩:=h
 have cp:∀ o,w'.cell? ⟨p,o,none⟩=w.cell? ⟨p,o,none⟩:=fun o => World.cell?_of_block (w:=w) (hk p h0 (.inl rfl))
 have cq:∀ o,w'.cell? ⟨q,o,none⟩=w.cell? ⟨q,o,none⟩:=fun o => World.cell?_of_block (w:=w) (hk q h1 (.inr (.inl rfl)))
 refine ⟨by omega,by omega,h2,(cp 0).trans h3,(cp 1).trans h4,(cp 2).trans h5,⟨cap,h6,h7,(cp 3).trans h8⟩,fun o => (World.frozen?_of_block (w:=w) (hk q h1 (.inr (.inl rfl)))).trans (h9 o),fun i hi => ?_⟩
 obtain ⟨v,hv,A,cap',e1,e2,e3,e4⟩:=h10 i hi
 refine ⟨v,(cq i).trans hv,A,cap',e1,e2,e3,fun hn => ?_⟩
 obtain ⟨b,off,e5,e6,e7,e8⟩:=e4 hn
 exact ⟨b,off,e5,by omega,e7,fun j hj => (e8 j hj).keep fun a ha => World.cell?_of_block (w:=w) (by rw [ha]; exact hk b e6 (.inr (.inr e7)))⟩
theorem BkAt.call {w w':World} {D:Nat→Prop} {p q S B n:Nat} {g:Nat→Nat→Pl} (h:BkAt w D p q S B n g) (hb:Below w.heap.size w w'):BkAt w' D p q S B n g :=
 h.keep hb.size fun b hlt _ => hb.block b hlt
theorem BkAt.but {w w':World} {D:Nat→Prop} {p q q' S B n:Nat} {g:Nat→Nat→Pl} (h:BkAt w D p q S B n g) (hb:But q' w w') (h1:p ≠ q') (h2:q ≠ q') (hD:D q'):BkAt w' D p q S B n g :=
 h.keep hb.below.size fun b hlt hc => hb.rest b hlt (by
  rcases hc with rfl | rfl | hc
  ·exact h1
  ·exact h2
  ·exact fun e => hc (by rw [e]; exact hD))
def updR (g:Nat→Nat→Pl) (i:Nat) (f:Nat→Pl) (j:Nat):Nat→Pl:=if j=i then f else g j
theorem BkAt.put {w:World} {D:Nat→Prop} {p q S B n i:Nat} {g:Nat→Nat→Pl} {v:Value} {f:Nat→Pl} (h:BkAt w D p q S B n g) (hi:i < S * B) (hv:PlRowD w D v n f) (hD:D q):BkAt (w.setCell ⟨q,i,none⟩ v) D p q S B n (updR g i f):=by
 obtain ⟨h0,h1,h2,h3,h4,h5,⟨cap,h6,h7,h8⟩,h9,h10⟩:=h
 have hb:But q w (w.setCell ⟨q,i,none⟩ v):=But.set i v
 have cp:∀ o,(w.setCell ⟨q,i,none⟩ v).cell? ⟨p,o,none⟩=w.cell? ⟨p,o,none⟩:=fun o => hb.cell h0 h2
 obtain ⟨v0,hv0,_⟩:=h10 i hi
 refine ⟨by simpa using h0,by simpa using h1,h2,(cp 0).trans h3,(cp 1).trans h4,(cp 2).trans h5,⟨cap,h6,h7,(cp 3).trans h8⟩,fun o => by simp [go_sem,h9],fun j hj => ?_⟩
 by_cases hji:j=i
 ·subst hji
  refine ⟨v,by simp [go_sem,hv0],?_⟩
  have e:updR g j f j=f:=by unfold updR; rw [if_pos rfl]
  rw [e]
  exact hv.but hb hD
 ·obtain ⟨u,hu,hr⟩:=h10 j hj
  refine ⟨u,?_,?_⟩
  ·rw [← hu]
   simp [go_sem]
  ·have e:updR g i f j=g j:=by unfold updR; rw [if_neg hji]
   rw [e]
   exact hr.but hb hD
end
section
open Go.RowKit
def atI (S B:Nat) (s m:Int):Int:=if 0≤s∧s < S∧0≤m∧m < B then s * B + m else -1
theorem at_lt {a b S B:Nat} (ha:a < S) (hb:b < B):a * B + b < S * B:=by
 have h1:(a + 1) * B≤S * B:=Nat.mul_le_mul_right B ha
 rw [Nat.add_mul] at h1
 omega
def homeI (v:Int) (m S B:Nat):Int:=atI S B (plS v m S B) (plB v m S B)
theorem pl_bd (v:Int) (m:Nat) (s b:Int):0≤plS v m s b∧(1≤s→plS v m s b < s)∧0≤plB v m s b∧(1≤b→plB v m s b < b):=by
 unfold plS plB
 by_cases h:rightK v m=true∧1≤s∧1≤b
 ·rw [if_pos h,if_pos h]
  have a1:=Int.emod_nonneg (mixI (wordN v m:Nat)) (show s ≠ 0 by omega)
  have a2:=Int.emod_lt_of_pos (mixI (wordN v m:Nat)) (show 0 < s by omega)
  have a3:=Int.emod_nonneg (mixI (wordN v m:Nat) / 4294967296) (show b ≠ 0 by omega)
  have a4:=Int.emod_lt_of_pos (mixI (wordN v m:Nat) / 4294967296) (show 0 < b by omega)
  exact ⟨a1,fun _ => a2,a3,fun _ => a4⟩
 ·rw [if_neg h,if_neg h]
  exact ⟨by omega,fun _ => by omega,by omega,fun _ => by omega⟩
def homeN (v:Int) (m S B:Nat):Nat:=(plS v m S B).toNat * B + (plB v m S B).toNat
theorem home_in {v:Int} {m S B:Nat} (hS:1≤S) (hB:1≤B):homeI v m S B=(homeN v m S B:Nat)∧homeN v m S B < S * B:=by
 have h:=pl_bd v m S B
 have hlt:=at_lt (a:=(plS v m S B).toNat) (b:=(plB v m S B).toNat) (S:=S) (B:=B) (by omega) (by omega)
 refine ⟨?_,hlt⟩
 unfold homeI homeN atI
 rw [if_pos (by omega)]
 have e1:((plS v m S B).toNat:Int)=plS v m S B:=Int.toNat_of_nonneg h.1
 have e2:((plB v m S B).toNat:Int)=plB v m S B:=Int.toNat_of_nonneg h.2.2.1
 rw [Int.natCast_add,Int.natCast_mul,e1,e2]
end
section
open Go.RowKit
def portF (f:Nat→Pl) (v:Int) (m n:Nat):Int:=if findF f v m n < 0 then -1 else (f (findF f v m n).toNat).e.port
end
section
open Go.RowKit
def ageR (g:Nat→Nat→Pl) (H now lim:Nat):Nat→Pl:=sweepF (fun i => ownP (g H i)) (oldE now lim)
def ageC (g:Nat→Nat→Pl) (H now lim n:Nat):Nat:=goneF (fun i => ownP (g H i)) (oldE now lim) n
end
section
open Go.RowKit
def inB (x y:Int):Bool:=decide (1≤x) && decide (x≤y)
def rightS (a b c:Int):Bool:=(inB a 8 && inB b 16) && inB c 8
set_option maxHeartbeats 800000 in
theorem book_within (x y:Int) (w:World) :
  Calls Tryz.prog 123 #[.int .i64 x,.int .i64 y] w (Says (.bool (inB x y)) w):=by
 unfold inB
 by_cases h:1≤x
 ·have d:decide (1≤x)=true:=by simpa using h
  rw [d]
  by_cases h2:x≤y
  ·have d2:decide (x≤y)=true:=by simpa using h2
   rw [d2]
   clear d d2
   go_enter Tryz.func123,Tryz.ntmps123
   go_wp2
   go_ret
   exact ⟨by simp,Below.refl _ _⟩
  ·have d2:decide (x≤y)=false:=by simpa using h2
   rw [d2]
   clear d d2
   go_enter Tryz.func123,Tryz.ntmps123
   go_wp2
   go_ret
   exact ⟨by simp,Below.refl _ _⟩
 ·have d:decide (1≤x)=false:=by simpa using h
  rw [d]
  clear d
  go_enter Tryz.func123,Tryz.ntmps123
  go_wp2
  go_ret
  exact ⟨by simp,Below.refl _ _⟩
set_option maxHeartbeats 3200000 in
theorem book_Right (a b c:Int) (w:World) :
  Calls Tryz.prog 84 #[.agg #[.int .i64 a,.int .i64 b,.int .i64 c]] w (Says (.bool (rightS a b c)) w):=by
 have H1:=Lib.hid fun W => book_within a 8 W
 have H2:=Lib.hid fun W => book_within b 16 W
 have H3:=Lib.hid fun W => book_within c 8 W
 unfold rightS
 generalize inB a 8=x at *
 generalize inB b 16=y at *
 generalize inB c 8=z at *
 cases x
 ·go_enter Tryz.func84,Tryz.ntmps84
  go_wp2_with fail
  refine (H1.out _).mono ?_
  rintro e w1 ⟨rfl,hb⟩
  have HB1:Hid (Below w.heap.size w w1):=Below.trans ((Below.refl _ _).alloc (Nat.le_refl _) _) (hb.mono (by simp))
  clear hb
  go_wp2
  go_ret
  exact ⟨by simp,HB1.out⟩
 ·cases y
  ·go_enter Tryz.func84,Tryz.ntmps84
   go_wp2_with fail
   refine (H1.out _).mono ?_
   rintro e w1 ⟨rfl,hb⟩
   have HB1:Hid (Below w.heap.size w w1):=Below.trans ((Below.refl _ _).alloc (Nat.le_refl _) _) (hb.mono (by simp))
   have k1:w1.cell? ⟨w.heap.size,1,none⟩=some (.int .i64 b):=by rw [(bcell hb).1 _ _ (by simp)]; simp [go_sem]
   clear hb
   go_wp2_with fail
   refine (H2.out _).mono ?_
   rintro e w2 ⟨rfl,hb⟩
   have HB2:Hid (Below w.heap.size w w2):=HB1.out.trans (hb.mono HB1.out.size)
   clear hb
   go_wp2
   go_ret
   exact ⟨by simp,HB2.out⟩
  ·go_enter Tryz.func84,Tryz.ntmps84
   go_wp2_with fail
   refine (H1.out _).mono ?_
   rintro e w1 ⟨rfl,hb⟩
   have HB1:Hid (Below w.heap.size w w1):=Below.trans ((Below.refl _ _).alloc (Nat.le_refl _) _) (hb.mono (by simp))
   have k1:w1.cell? ⟨w.heap.size,1,none⟩=some (.int .i64 b):=by rw [(bcell hb).1 _ _ (by simp)]; simp [go_sem]
   have k2:w1.cell? ⟨w.heap.size,2,none⟩=some (.int .i64 c):=by rw [(bcell hb).1 _ _ (by simp)]; simp [go_sem]
   have hz:w.heap.size + 1≤w1.heap.size:=by have:=hb.size; simpa using this
   clear hb
   go_wp2_with fail
   refine (H2.out _).mono ?_
   rintro e w2 ⟨rfl,hb⟩
   have HB2:Hid (Below w.heap.size w w2):=HB1.out.trans (hb.mono HB1.out.size)
   have k2:=((bcell hb).1 w.heap.size 2 (by omega)).trans k2
   clear hb
   go_wp2_with fail
   refine (H3.out _).mono ?_
   rintro e w3 ⟨rfl,hb⟩
   have HB3:Hid (Below w.heap.size w w3):=HB2.out.trans (hb.mono HB2.out.size)
   clear hb
   go_wp2
   go_ret
   exact ⟨by simp,HB3.out⟩
end
section
open Go.RowKit
end
section
open Go.RowKit
end
section
open Go.RowKit
end
section
open Go.RowKit
def R1:Nat→Pl:=(putF (fun _ => ownP pl0) ⟨1,2,3,false,5⟩ 5 1).1
def R2:Nat→Pl:=(putF (fun i => ownP (R1 i)) ⟨1,4,1,false,6⟩ 6 1).1
def g1:Nat→Nat→Pl:=updR (fun _ _ => pl0) 0 R1
def g2:Nat→Nat→Pl:=updR g1 0 R2
end
section
open Go.RowKit
theorem kind7 (kd:Int):∃ K:Nat,K < 7∧wrap64 ((IntKind.u64.wrap kd).tmod 7)=(K:Int)∧IntKind.i64.wrap ((IntKind.u64.wrap kd).tmod 7)=(K:Int):=by
 have h1:0≤IntKind.u64.wrap kd:=by rw [IntKind.wrap_u64]; omega
 rw [Int.tmod_eq_emod_of_nonneg h1]
 refine ⟨(IntKind.u64.wrap kd % 7).toNat,by omega,?_,?_⟩
 ·rw [IntWalk.wrap64_in _ (by omega)]; omega
 ·rw [IntWalk.i64_in _ (by omega)]; omega
set_option maxHeartbeats 800000 in
theorem law11_To (a b c:Int) (w:World) :
  Calls Tryz.prog 46 #[.agg #[.int .i64 a,.int .i64 b,.int .i64 c]] w (Says (.agg #[.int .i64 a,.int .i64 b,.int .i64 c]) w):=by
 go_enter Tryz.func46,Tryz.ntmps46
 go_wp2
 exact bodyPost_ret (v:=.agg #[.int .i64 a,.int .i64 b,.int .i64 c]) (by simp [results,Tryz.results46,go_sem]) rfl ⟨rfl,(by (repeat' (first | (with_reducible exact Below.refl _ _) | (with_reducible refine Below.setCell ?_ ?_ _) | (with_reducible refine Below.alloc ?_ ?_ _) | go_size)))⟩
set_option maxHeartbeats 6400000 in
theorem ref11_Right (a b c:Int) (w:World) :
  Calls Tryz.prog 50 #[.agg #[.int .i64 a,.int .i64 b,.int .i64 c]] w (Says (.bool (rightS a b c)) w):=by
 unfold rightS inB
 by_cases h1:1≤a
 ·have d1:decide (1≤a)=true:=by simpa using h1
  by_cases h2:a≤8
  ·have d2:decide (a≤8)=true:=by simpa using h2
   by_cases h3:1≤b
   ·have d3:decide (1≤b)=true:=by simpa using h3
    by_cases h4:b≤16
    ·have d4:decide (b≤16)=true:=by simpa using h4
     by_cases h5:1≤c
     ·have d5:decide (1≤c)=true:=by simpa using h5
      by_cases h6:c≤8
      ·have d6:decide (c≤8)=true:=by simpa using h6
       rw [d1,d2,d3,d4,d5,d6]
       clear d1 d2 d3 d4 d5 d6
       go_enter Tryz.func50,Tryz.ntmps50
       go_wp2
       go_ret
       exact ⟨by simp,(Below.refl _ _).alloc (Nat.le_refl _) _⟩
      ·have d6:decide (c≤8)=false:=by simpa using h6
       rw [d1,d2,d3,d4,d5,d6]
       clear d1 d2 d3 d4 d5 d6
       go_enter Tryz.func50,Tryz.ntmps50
       go_wp2
       go_ret
       exact ⟨by simp,(Below.refl _ _).alloc (Nat.le_refl _) _⟩
     ·have d5:decide (1≤c)=false:=by simpa using h5
      rw [d1,d2,d3,d4,d5]
      clear d1 d2 d3 d4 d5
      go_enter Tryz.func50,Tryz.ntmps50
      go_wp2
      go_ret
      exact ⟨by simp,(Below.refl _ _).alloc (Nat.le_refl _) _⟩
    ·have d4:decide (b≤16)=false:=by simpa using h4
     rw [d1,d2,d3,d4]
     clear d1 d2 d3 d4
     go_enter Tryz.func50,Tryz.ntmps50
     go_wp2
     go_ret
     exact ⟨by simp,(Below.refl _ _).alloc (Nat.le_refl _) _⟩
   ·have d3:decide (1≤b)=false:=by simpa using h3
    rw [d1,d2,d3]
    clear d1 d2 d3
    go_enter Tryz.func50,Tryz.ntmps50
    go_wp2
    go_ret
    exact ⟨by simp,(Below.refl _ _).alloc (Nat.le_refl _) _⟩
  ·have d2:decide (a≤8)=false:=by simpa using h2
   rw [d1,d2]
   clear d1 d2
   go_enter Tryz.func50,Tryz.ntmps50
   go_wp2
   go_ret
   exact ⟨by simp,(Below.refl _ _).alloc (Nat.le_refl _) _⟩
 ·have d1:decide (1≤a)=false:=by simpa using h1
  rw [d1]
  clear d1
  go_enter Tryz.func50,Tryz.ntmps50
  go_wp2
  go_ret
  exact ⟨by simp,(Below.refl _ _).alloc (Nat.le_refl _) _⟩
end
section
open Go.RowKit
def flR (a b:Int) (f:Nat→Pl):Nat→Pl:=sweepF (fun i => ownP (f i)) (hitE a b)
def flN (a b:Int) (f:Nat→Pl) (n:Nat):Nat:=goneF (fun i => ownP (f i)) (hitE a b) n
def flC (a b:Int) (g:Nat→Nat→Pl) (n:Nat):Nat→Nat
 | 0 => 0
 | k + 1 => flC a b g n k + flN a b (g k) n
def flG (a b:Int) (g:Nat→Nat→Pl) (k j:Nat):Nat→Pl:=if j < k then flR a b (g j) else g j
theorem flC_le (a b:Int) (g:Nat→Nat→Pl) (n:Nat):∀ k,flC a b g n k≤k * n
 | 0 => by simp [flC]
 | k + 1 => by
  have h1:=flC_le a b g n k
  have h2:flN a b (g k) n≤n:=goneF_le _ _ n
  rw [flC,Nat.add_mul]
  omega
theorem BkAt.congr {w:World} {D:Nat→Prop} {p q S B n:Nat} {g g':Nat→Nat→Pl} (h:BkAt w D p q S B n g) (hg:∀ i,i < S * B→g i=g' i):BkAt w D p q S B n g':=by
 obtain ⟨h0,h1,h2,h3,h4,h5,h6,h9,h10⟩:=h
 refine ⟨h0,h1,h2,h3,h4,h5,h6,h9,fun i hi => ?_⟩
 obtain ⟨v,hv,hr⟩:=h10 i hi
 exact ⟨v,hv,by rw [← hg i hi]; exact hr⟩
theorem add_in {c d:Nat} (h:c + d≤1024):wrap64 ((c:Int) + (d:Int))=((c + d:Nat):Int)∧IntKind.i64.wrap ((c:Int) + (d:Int))=((c + d:Nat):Int):=by
 have e:(c:Int) + (d:Int)=((c + d:Nat):Int):=by simp
 rw [e]
 exact ⟨IntWalk.wrap64_in _ (by omega),IntWalk.i64_in _ (by omega)⟩
end
section
open Go.RowKit
def doG (K:Nat) (v:Int) (m:Nat) (port vid:Int) (now old:Nat) (S B n:Nat) (g:Nat→Nat→Pl):(Nat→Nat→Pl) × Int :=
 if K=0 then (g,portF (g (homeN v m S B)) v m n)
 else if K=3 then (updR g (homeN v m S B) (putF (fun i => ownP (g (homeN v m S B) i)) ⟨v,m,port,true,0⟩ now n).1,((putF (fun i => ownP (g (homeN v m S B) i)) ⟨v,m,port,true,0⟩ now n).2:Nat))
 else if K=4 then (updR g (homeN v m S B) (dropF (fun i => ownP (g (homeN v m S B) i)) v m n).1,if (dropF (fun i => ownP (g (homeN v m S B) i)) v m n).2=true then 1 else 0)
 else if K=5 then (if atI S B port vid < 0 then (g,0) else (updR g (atI S B port vid).toNat (ageR g (atI S B port vid).toNat now old),(ageC g (atI S B port vid).toNat now old n:Nat)))
 else if K=6 then (flG port vid g (S * B),(flC port vid g n (S * B):Nat))
 else (updR g (homeN v m S B) (putF (fun i => ownP (g (homeN v m S B) i)) ⟨v,m,port,false,now⟩ now n).1,((putF (fun i => ownP (g (homeN v m S B) i)) ⟨v,m,port,false,now⟩ now n).2:Nat))
def stG (g:Nat→Nat→Pl):Prop:=∀ i j,(g i j).e.stamp < 4294967296
theorem own_st {f:Nat→Pl} (h:∀ j,(f j).e.stamp < 4294967296) (j:Nat):(ownP (f j)).e.stamp < 4294967296:=by
 unfold ownP
 split
 ·exact h j
 ·show (0:Nat) < _; omega
theorem updP_st {f:Nat→Pl} {x:Pl} (h:∀ j,(f j).e.stamp < 4294967296) (hx:x.e.stamp < 4294967296) (k j:Nat):(updP f k x j).e.stamp < 4294967296:=by
 unfold updP
 split
 ·exact hx
 ·exact h j
theorem put_st {f:Nat→Pl} {e:En} {now n:Nat} (h:∀ j,(f j).e.stamp < 4294967296) (he:e.stamp < 4294967296) (j:Nat):((putF f e now n).1 j).e.stamp < 4294967296:=by
 unfold putF
 split
 ·exact h j
 ·split
  ·split
   ·exact h j
   ·exact updP_st h he _ j
  ·split
   ·exact h j
   ·exact updP_st h he _ j
theorem drop_st {f:Nat→Pl} {v:Int} {m n:Nat} (h:∀ j,(f j).e.stamp < 4294967296) (j:Nat):((dropF f v m n).1 j).e.stamp < 4294967296:=by
 unfold dropF
 split
 ·exact h j
 ·split
  ·exact updP_st h (by show (0:Nat) < _; omega) _ j
  ·exact h j
theorem sweep_st {f:Nat→Pl} {c:En→Bool} (h:∀ j,(f j).e.stamp < 4294967296) (j:Nat):(sweepF f c j).e.stamp < 4294967296:=by
 unfold sweepF
 split
 ·show (0:Nat) < _; omega
 ·exact h j
theorem updR_st {g:Nat→Nat→Pl} {f:Nat→Pl} (h:stG g) (hf:∀ j,(f j).e.stamp < 4294967296) (k:Nat):stG (updR g k f):=by
 intro i j
 unfold updR
 split
 ·exact hf j
 ·exact h i j
theorem doG_st (K:Nat) (v:Int) (m:Nat) (port vid:Int) (now old:Nat) (S B n:Nat) (g:Nat→Nat→Pl) (h:stG g) (hnow:now < 4294967296):stG (doG K v m port vid now old S B n g).1:=by
 unfold doG
 split
 ·exact h
 ·split
  ·exact updR_st h (put_st (own_st (h _)) (by show (0:Nat) < _; omega)) _
  ·split
   ·exact updR_st h (drop_st (own_st (h _))) _
   ·split
    ·split
     ·exact h
     ·exact updR_st h (sweep_st (own_st (h _))) _
    ·split
     ·intro i j
      show (flG port vid g (S * B) i j).e.stamp < 4294967296
      unfold flG
      split
      ·exact sweep_st (own_st (h _)) j
      ·exact h i j
     ·exact updR_st h (put_st (own_st (h _)) hnow) _
theorem at_cases (S B:Nat) (s t:Int):(atI S B s t=-1∧atI S B s t < 0) ∨ ∃ H:Nat,H < S * B∧atI S B s t=(H:Int):=by
 by_cases hc:0≤s∧s < S∧0≤t∧t < B
 ·right
  obtain ⟨c1,c2,c3,c4⟩:=hc
  obtain ⟨a,rfl⟩:=Int.eq_ofNat_of_zero_le c1
  obtain ⟨b,rfl⟩:=Int.eq_ofNat_of_zero_le c3
  refine ⟨a * B + b,at_lt (by omega) (by omega),?_⟩
  unfold atI
  rw [if_pos ⟨c1,c2,c3,c4⟩]
  simp
 ·left
  have e:atI S B s t=-1:=if_neg hc
  exact ⟨e,by omega⟩
end
end Go.Proofs.YthloabdfkakehaaGreat
