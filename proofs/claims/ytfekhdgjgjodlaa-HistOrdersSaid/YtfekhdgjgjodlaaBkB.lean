/-
  Words and contracts that a statement's proof rests on (BkB). No statement is proved here.
-/
import Derived.Test.YtfekhdgjgjodlaaBkA
set_option linter.unusedVariables false
set_option linter.unusedSimpArgs false
namespace Go.Proofs.Ytfekhdgjgjodlaa
open Go.RowKit
set_option maxHeartbeats 800000 in
theorem book_Size {w:World} {D:Nat→Prop} {p q S B n:Nat} {g:Nat→Nat→Pl} (h:BkAt w D p q S B n g) :
  Calls Try.prog 80 #[.pointer (some ⟨p,0,none⟩)] w (Says (.agg #[.int .i64 (S:Nat),.int .i64 (B:Nat),.int .i64 (n:Nat)]) w):=by
 obtain ⟨h0,_,_,h3,h4,h5,_⟩:=h
 have k0:∀ o,(w.alloc o).cell? ⟨p,0,none⟩=some (.int .i64 (S:Nat)):=fun o => by rw [World.cell?_alloc_lt _ _ _ (by show p < _; omega)]; exact h3
 have k1:∀ o,(w.alloc o).cell? ⟨p,1,none⟩=some (.int .i64 (B:Nat)):=fun o => by rw [World.cell?_alloc_lt _ _ _ (by show p < _; omega)]; exact h4
 have k2:∀ o,(w.alloc o).cell? ⟨p,2,none⟩=some (.int .i64 (n:Nat)):=fun o => by rw [World.cell?_alloc_lt _ _ _ (by show p < _; omega)]; exact h5
 clear h3 h4 h5
 go_enter Try.func80,Try.ntmps80
 go_wp2
 exact bodyPost_ret (v:=.agg #[.int .i64 (S:Nat),.int .i64 (B:Nat),.int .i64 (n:Nat)]) (by simp [results,Try.results80,go_sem]) rfl ⟨rfl,(by (repeat' (first | (with_reducible exact Below.refl _ _) | (with_reducible assumption) | (with_reducible refine Below.setCell ?_ ?_ _) | (with_reducible refine Below.alloc ?_ ?_ _) | go_size)))⟩
def SizeOf (ptr:Value) (S B n:Nat) (w:World):Prop:=∀ w',Below w.heap.size w w'→Calls Try.prog 80 #[ptr] w' (Says (.agg #[.int .i64 (S:Nat),.int .i64 (B:Nat),.int .i64 (n:Nat)]) w')
theorem SizeOf.of {w:World} {D:Nat→Prop} {p q S B n:Nat} {g:Nat→Nat→Pl} (h:BkAt w D p q S B n g):SizeOf (.pointer (some ⟨p,0,none⟩)) S B n w:=fun w' hb => book_Size (h.call hb)
theorem SizeOf.call {ptr:Value} {S B n:Nat} {w w':World} (h:SizeOf ptr S B n w) (hb:Below w.heap.size w w'):SizeOf ptr S B n w':=fun w'' hb' => h w'' (hb.trans (hb'.mono hb.size))
def atI (S B:Nat) (s m:Int):Int:=if 0≤s∧s < S∧0≤m∧m < B then s * B + m else -1
theorem at_lt {a b S B:Nat} (ha:a < S) (hb:b < B):a * B + b < S * B:=by
 have h1:(a + 1) * B≤S * B:=Nat.mul_le_mul_right B ha
 rw [Nat.add_mul] at h1
 omega
set_option maxHeartbeats 3200000 in
theorem book_at {ptr:Value} {S B n:Nat} {w:World} (h:SizeOf ptr S B n w) (hSB:S * B < 1000000) (hB:B < 1000000) (hS:S < 1000000) (s m:Int) :
  Calls Try.prog 73 #[ptr,.int .i64 s,.int .i64 m] w (Says (.int .i64 (atI S B s m)) w):=by
 have HS:=Lib.hid (h w (Below.refl _ _))
 by_cases hc:0≤s∧s < S∧0≤m∧m < B
 ·have hr:atI S B s m=s * B + m:=if_pos hc
  obtain ⟨c1,c2,c3,c4⟩:=hc
  obtain ⟨a,rfl⟩:=Int.eq_ofNat_of_zero_le c1
  obtain ⟨b,rfl⟩:=Int.eq_ofNat_of_zero_le c3
  have hlt:=at_lt (a:=a) (b:=b) (S:=S) (B:=B) (by omega) (by omega)
  have hab:((a * B + b:Nat):Int)=(a:Int) * (B:Int) + (b:Int):=by simp
  obtain ⟨x,hx⟩:∃ x,x=a * B:=⟨_,rfl⟩
  have hxi:(a:Int) * (B:Int)=(x:Int):=by rw [hx]; simp
  rw [hr,hxi]
  rw [← hx] at hlt hab
  have hw1:wrap64 (x:Int)=(x:Int):=IntWalk.wrap64_in _ (by omega)
  have hw2:wrap64 ((x:Int) + (b:Int))=(x:Int) + (b:Int):=IntWalk.wrap64_in _ (by omega)
  have d1:decide ((a:Int) < 0)=false:=by simp
  have d2:decide ((a:Int) ≥ (S:Int))=false:=by simp; omega
  have d3:decide ((b:Int) < 0)=false:=by simp
  have d4:decide ((b:Int) ≥ (B:Int))=false:=by simp; omega
  have f2:¬ (S:Int)≤(a:Int):=by omega
  have f4:¬ (B:Int)≤(b:Int):=by omega
  clear hr h hx hab c1 c3
  go_enter Try.func73,Try.ntmps73
  go_wp2_with fail
  refine (HS.out).mono ?_
  rintro e w1 ⟨rfl,hb⟩
  have HB:=Lib.hid (hb.alloc hb.size (.cells #[.int .i64 (S:Nat),.int .i64 (B:Nat),.int .i64 (n:Nat)] 52))
  clear hb
  go_wp2
  go_ret
  exact ⟨by simp,HB.out⟩
 ·have hr:atI S B s m=-1:=if_neg hc
  rw [hr]
  clear h hr
  rcases (show s < 0 ∨ (0≤s∧(S:Int)≤s) ∨ (0≤s∧s < S∧m < 0) ∨ (0≤s∧s < S∧0≤m∧(B:Int)≤m) by omega) with k | ⟨k1,k⟩ | ⟨k1,k2,k⟩ | ⟨k1,k2,k3,k⟩
  all_goals
   clear hc
   go_enter Try.func73,Try.ntmps73
   go_wp2_with fail
   refine (HS.out).mono ?_
   rintro e w1 ⟨rfl,hb⟩
   have HB:=Lib.hid (hb.alloc hb.size (.cells #[.int .i64 (S:Nat),.int .i64 (B:Nat),.int .i64 (n:Nat)] 52))
   clear hb
   go_wp2
   go_ret
   exact ⟨by simp,HB.out⟩
def homeI (v:Int) (m S B:Nat):Int:=atI S B (plS v m S B) (plB v m S B)
theorem pl_bd (v:Int) (m:Nat) (s b:Int):0≤plS v m s b∧(1≤s→plS v m s b < s)∧0≤plB v m s b∧(1≤b→plB v m s b < b):=by
 unfold plS plB
 by_cases h:rightK v m=true∧1≤s∧1≤b
 ·rw [if_pos h,if_pos h]
  have a1:=Int.emod_nonneg (mixI (wordN v m:Nat)) (show s ≠ 0 by omega)
  have a2:=Int.emod_lt_of_pos (mixI (wordN v m:Nat)) (show 0 < s by omega)
  have a3:=Int.emod_nonneg (mixI (wordN v m:Nat) / 4294967296) (show b ≠ 0 by omega)
  have a4:=Int.emod_lt_of_pos (mixI (wordN v m:Nat) / 4294967296) (show 0 < b by omega)
  exact ⟨a1,fun _ => a2,a3,fun _ => a4⟩
 ·rw [if_neg h,if_neg h]
  exact ⟨by omega,fun _ => by omega,by omega,fun _ => by omega⟩
def homeN (v:Int) (m S B:Nat):Nat:=(plS v m S B).toNat * B + (plB v m S B).toNat
theorem home_in {v:Int} {m S B:Nat} (hS:1≤S) (hB:1≤B):homeI v m S B=(homeN v m S B:Nat)∧homeN v m S B < S * B:=by
 have h:=pl_bd v m S B
 have hlt:=at_lt (a:=(plS v m S B).toNat) (b:=(plB v m S B).toNat) (S:=S) (B:=B) (by omega) (by omega)
 refine ⟨?_,hlt⟩
 unfold homeI homeN atI
 rw [if_pos (by omega)]
 have e1:((plS v m S B).toNat:Int)=plS v m S B:=Int.toNat_of_nonneg h.1
 have e2:((plB v m S B).toNat:Int)=plB v m S B:=Int.toNat_of_nonneg h.2.2.1
 rw [Int.natCast_add,Int.natCast_mul,e1,e2]
set_option maxHeartbeats 3200000 in
theorem book_home {ptr:Value} {S B n:Nat} {w:World} (h:SizeOf ptr S B n w) (hSB:S * B < 1000000) (hB:B < 1000000) (hS:S < 1000000) (v:Int) (m:Nat) (hm:m < 18446744073709551616) :
  Calls Try.prog 68 #[ptr,.agg #[.int .i64 v,.int .u64 (m:Int)]] w (Says (.int .i64 (homeI v m S B)) w):=by
 have HS:=Lib.hid h
 have HP:=Lib.hid fun w => key_Place v m hm S B (by omega) (by omega) w
 have HA:=Lib.hid fun w' (hb:Below w.heap.size w w') => book_at (h.call hb) hSB hB hS (plS v m S B) (plB v m S B)
 unfold homeI
 generalize atI S B (plS v m S B) (plB v m S B)=r at *
 generalize plS v m S B=x at *
 generalize plB v m S B=y at *
 clear h hSB hB hS hm
 go_enter Try.func68,Try.ntmps68
 go_wp2_with fail
 refine (HS.out _ ((Below.refl _ _).alloc (Nat.le_refl _) _)).mono ?_
 rintro e w1 ⟨rfl,hb⟩
 have HB1:Hid (Below w.heap.size w w1):=Below.trans ((Below.refl _ _).alloc (Nat.le_refl _) _) (hb.mono (by simp))
 have k0:w1.cell? ⟨w.heap.size,0,none⟩=some (.int .i64 v):=by rw [(bcell hb).1 _ _ (by simp)]; simp [go_sem]
 have k1:w1.cell? ⟨w.heap.size,1,none⟩=some (.int .u64 (m:Int)):=by rw [(bcell hb).1 _ _ (by simp)]; simp [go_sem]
 have hz1:w.heap.size + 1≤w1.heap.size:=by have:=hb.size; simpa using this
 have j0:∀ o,(w1.alloc o).cell? ⟨w.heap.size,0,none⟩=some (.int .i64 v):=fun o => (World.cell?_alloc_lt _ _ _ (by show w.heap.size < _; omega)).trans k0
 have j1:∀ o,(w1.alloc o).cell? ⟨w.heap.size,1,none⟩=some (.int .u64 (m:Int)):=fun o => (World.cell?_alloc_lt _ _ _ (by show w.heap.size < _; omega)).trans k1
 clear hb k0 k1
 go_wp2_with fail
 refine (HP.out _).mono ?_
 rintro e w2 ⟨rfl,hb⟩
 have HB2:Hid (Below w.heap.size w w2):=Below.trans (HB1.out.alloc (by omega) _) (hb.mono (by simp; omega))
 clear hb
 go_wp2_with fail
 refine (HA.out _ HB2.out).mono ?_
 rintro e w3 ⟨rfl,hb⟩
 have HB3:Hid (Below w.heap.size w w3):=HB2.out.trans (hb.mono HB2.out.size)
 clear hb
 go_wp2
 go_ret
 exact ⟨rfl,HB3.out⟩
end Go.Proofs.Ytfekhdgjgjodlaa
