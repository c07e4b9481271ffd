/-
  Words and contracts that a statement's proof rests on (Ticks, Kit2, Turn, KeyA, But, Words). No statement is proved here.
-/
import Derived.IntWalk
import Derived.Laws.Bits64
import Derived.Deep.RegionHeld3
import Derived.Test.YthloabdfkakehaaPlainKy
import Derived.Test.YthloabdfkakehaaPlainFrame
set_option linter.unusedVariables false
set_option linter.unusedSimpArgs false
namespace Go.Proofs.Ythloabdfkakehaa
section
open Go.RowKit
def distN (now t:Nat):Nat:=(now + 4294967296 - t) % 4294967296
def ageN (now t:Nat):Nat:=if distN now t < 2147483648 then distN now t else 0
def oldB (now t lim:Nat):Bool:=decide (lim < ageN now t)
theorem distN_lt (now t:Nat):distN now t < 4294967296:=Nat.mod_lt _ (by omega)
theorem ageN_in {now t:Nat} (h:distN now t < 2147483648):ageN now t=distN now t:=if_pos h
theorem ageN_out {now t:Nat} (h:¬ distN now t < 2147483648):ageN now t=0:=if_neg h
theorem wrap_dist {now t:Nat} (h:now < 4294967296) (ht:t < 4294967296):IntKind.u32.wrap ((now:Int) - (t:Int))=((distN now t:Nat):Int):=by
 rw [IntKind.wrap_u32]; unfold distN; omega
set_option maxHeartbeats 400000 in
theorem ticks_Age (now t:Nat) (hn:now < 4294967296) (ht:t < 4294967296) (w:World) :
  Calls Try.prog 115 #[.int .u32 (now:Int),.int .u32 (t:Int)] w fun e w' => e=.returned (.int .u32 (ageN now t:Nat))∧w=w':=by
 obtain ⟨x,hd⟩:∃ x,distN now t=x:=⟨_,rfl⟩
 have hw:=wrap_dist hn ht
 have hx:=distN_lt now t
 have hi:=@ageN_in now t
 have ho:=@ageN_out now t
 rw [hd] at hw hx hi ho
 clear hd
 by_cases h:¬ 2147483648≤(x:Int)
 ·rw [hi (by omega)]
  have hx':¬ 4294967296≤(x:Int):=by omega
  clear hi ho hx
  go_enter Try.func115,Try.ntmps115
  go_wp2
  go_ret
  exact ⟨rfl,rfl⟩
 ·rw [ho (by omega)]
  have hx':¬ 4294967296≤(x:Int):=by omega
  replace h:=Decidable.not_not.1 h
  clear hi ho hx
  go_enter Try.func115,Try.ntmps115
  go_wp2
  go_ret
  exact ⟨rfl,rfl⟩
set_option maxHeartbeats 400000 in
theorem ticks_Old (now t lim:Nat) (hn:now < 4294967296) (ht:t < 4294967296) (w:World) :
  Calls Try.prog 99 #[.int .u32 (now:Int),.int .u32 (t:Int),.int .u32 (lim:Int)] w fun e w' => e=.returned (.bool (oldB now t lim))∧w=w':=by
 have hA:=Lib.hid fun W => ticks_Age now t hn ht W
 unfold oldB
 generalize ageN now t=x at *
 go_enter Try.func99,Try.ntmps99
 go_wp2_with fail
 refine (hA.out _).mono ?_
 rintro e w1 ⟨rfl,rfl⟩
 go_wp2
 go_ret
 exact ⟨ret_bool (by simp),rfl⟩
end
section
open Go.RowKit
end
section
open Go.RowKit
def mixS (d c x:Int):Int:=IntKind.u64.wrap (bits .xor .u64 x (x / d) * c)
def mixZ (n:Int):Int:=mixS 134217728 10723151780598845931 (mixS 1073741824 13787848793156543929 (IntKind.u64.wrap (n + 11400714819323198485)))
def mixI (n:Int):Int:=bits .xor .u64 (mixZ n) (mixZ n / 2147483648)
theorem u64_wrap_bd (y:Int):0≤IntKind.u64.wrap y∧IntKind.u64.wrap y < 18446744073709551616:=by
 rw [IntKind.wrap_u64]; omega
theorem mixI_bd (n:Int):0≤mixI n∧mixI n < 18446744073709551616:=by
 obtain ⟨h0,h1⟩:=u64_wrap_bd (bits .xor .u64 (mixS 1073741824 13787848793156543929 (IntKind.u64.wrap (n + 11400714819323198485))) (mixS 1073741824 13787848793156543929 (IntKind.u64.wrap (n + 11400714819323198485)) / 134217728) * 10723151780598845931)
 change 0≤mixZ n at h0
 change mixZ n < _ at h1
 unfold mixI
 generalize mixZ n=x at *
 obtain ⟨X,rfl⟩:=Int.eq_ofNat_of_zero_le h0
 have hX:X < 18446744073709551616:=by omega
 have:=xorShift_u64 X 2147483648 hX
 rw [show ((2147483648:Nat):Int)=2147483648 from rfl] at this
 rw [this]
 have h2:X ^^^ X / 2147483648 < 2 ^ 64:=Nat.xor_lt_two_pow (by omega) (by omega)
 omega
theorem turn_Mix (n:Int) (hn:0≤n∧n < 18446744073709551616) (w:World) :
  Calls Try.prog 104 #[.int .u64 n] w fun e w' => e=.returned (.int .u64 (mixI n))∧w=w':=by
 clear hn
 go_enter Try.func104,Try.ntmps104
 go_wp2
 go_ret
 exact ⟨rfl,rfl⟩
end
section
open Go.RowKit
set_option maxHeartbeats 1600000 in
theorem key_Right (v:Int) (m:Nat) (hm:m < 18446744073709551616) (w:World) :
  Calls Try.prog 81 #[.agg #[.int .i64 v,.int .u64 (m:Int)]] w (Says (.bool (rightK v m)) w):=by
 have hg:(0:Int)≤(m:Int):=Int.natCast_nonneg _
 have hR:=fun W => mac_Right m hm W
 have hK:=fun W => mac_Kind m hm W
 rcases (show (v < 1) ∨ (1≤v∧4094 < v) ∨ (1≤v∧v≤4094∧m=0) ∨ (1≤v∧v≤4094∧0 < m∧281474976710656≤m) ∨ (1≤v∧v≤4094∧0 < m∧m < 281474976710656∧m / 1099511627776 % 2 ≠ 0) ∨ (1≤v∧v≤4094∧0 < m∧m < 281474976710656∧m / 1099511627776 % 2=0) by omega) with h | ⟨h,h1⟩ | ⟨h,h1,h2⟩ | ⟨h,h1,h2,h3⟩ | ⟨h,h1,h2,h3,h4⟩ | ⟨h,h1,h2,h3,h4⟩
 ·rw [rightK_no (by omega)]
  clear hR hK hm hg
  go_enter Try.func81,Try.ntmps81
  go_wp2
  go_ret
  exact ⟨ret_bool (by first | rfl | (simp; omega)),((Below.refl _ _).alloc (Nat.le_refl _) _)⟩
 ·rw [rightK_no (by omega)]
  clear hR hK hm hg
  go_enter Try.func81,Try.ntmps81
  go_wp2
  go_ret
  exact ⟨ret_bool (by first | rfl | (simp; omega)),((Below.refl _ _).alloc (Nat.le_refl _) _)⟩
 ·rw [rightK_no (by omega)]
  subst h2
  clear hR hK hm hg
  go_enter Try.func81,Try.ntmps81
  go_wp2
  go_ret
  exact ⟨ret_bool (by first | rfl | (simp; omega)),((Below.refl _ _).alloc (Nat.le_refl _) _)⟩
 ·rw [rightK_no (by omega)]
  have h5:¬ (m:Int)=0:=by omega
  rw [decide_eq_false (by omega)] at hR
  clear hK
  have HR:=Lib.hid hR
  clear hR
  clear hm
  go_enter Try.func81,Try.ntmps81
  go_wp2_with fail
  refine (HR.out _).mono ?_
  rintro e w1 ⟨rfl,rfl⟩
  go_wp2
  go_ret
  exact ⟨ret_bool (by first | rfl | (simp; omega)),((Below.refl _ _).alloc (Nat.le_refl _) _)⟩
 ·rw [rightK_no (by omega)]
  have h5:¬ (m:Int)=0:=by omega
  rw [decide_eq_true (by omega)] at hR
  have h6:¬ kindN m=0:=fun hh => h4 ((kind_zero h3).1 hh)
  generalize kindN m=k at *
  have h7:¬ (k:Int)=0:=by omega
  have HK:=Lib.hid hK
  clear hK
  have HR:=Lib.hid hR
  clear hR
  clear h4
  clear hm
  go_enter Try.func81,Try.ntmps81
  go_wp2_with fail
  refine (HR.out _).mono ?_
  rintro e w1 ⟨rfl,rfl⟩
  go_wp2_with fail
  refine (HK.out _).mono ?_
  rintro e w2 ⟨rfl,rfl⟩
  go_wp2
  go_ret
  exact ⟨ret_bool (by first | rfl | (simp; omega)),((Below.refl _ _).alloc (Nat.le_refl _) _)⟩
 ·rw [rightK_iff.2 ⟨h,h1,h2,h3,h4⟩]
  have h5:¬ (m:Int)=0:=by omega
  rw [decide_eq_true (by omega)] at hR
  rw [(kind_zero h3).2 h4] at hK
  have HK:=Lib.hid hK
  clear hK
  have HR:=Lib.hid hR
  clear hR
  clear h4
  clear hm
  go_enter Try.func81,Try.ntmps81
  go_wp2_with fail
  refine (HR.out _).mono ?_
  rintro e w1 ⟨rfl,rfl⟩
  go_wp2_with fail
  refine (HK.out _).mono ?_
  rintro e w2 ⟨rfl,rfl⟩
  go_wp2
  go_ret
  exact ⟨ret_bool (by first | rfl | (simp; omega)),((Below.refl _ _).alloc (Nat.le_refl _) _)⟩
set_option maxHeartbeats 1600000 in
theorem key_Word (v:Int) (m:Nat) (hm:m < 18446744073709551616) (w:World) :
  Calls Try.prog 105 #[.agg #[.int .i64 v,.int .u64 (m:Int)]] w (Says (.int .u64 (wordN v m:Nat)) w):=by
 have hR:=fun W => key_Right v m hm W
 cases hr:rightK v m
 ·rw [hr] at hR
  rw [wordN_no hr]
  have HR:=Lib.hid hR
  clear hR hr hm
  go_enter Try.func105,Try.ntmps105
  go_wp2_with fail
  refine (HR.out _).mono ?_
  rintro e w1 ⟨rfl,hb⟩
  have HB:=Lib.hid hb
  clear hb
  go_wp2
  go_ret
  exact ⟨rfl,Below.trans ((Below.refl _ _).alloc (Nat.le_refl _) _) (HB.out.mono (by simp))⟩
 ·rw [hr] at hR
  rw [wordN_yes hr]
  obtain ⟨h1,h2,h3,h4,h5⟩:=rightK_iff.1 hr
  have HR:=Lib.hid hR
  clear hR hr hm h5
  obtain ⟨u,rfl⟩:=Int.eq_ofNat_of_zero_le (show 0≤v by omega)
  rw [Int.toNat_natCast]
  have hu:u < 4096:=by omega
  have e1:bits .or .u64 1152921504606846976 ((u:Int) * 281474976710656)=((1152921504606846976 ||| u * 281474976710656:Nat):Int):=by
   have:=u64_or_nat 1152921504606846976 (u * 281474976710656) (by omega) (by omega)
   simpa using this
  have hx:1152921504606846976 ||| u * 281474976710656 < 18446744073709551616:=by
   have:=or_word u 0 hu (by omega)
   rw [Nat.or_zero] at this
   omega
  have e2:=u64_or_nat (1152921504606846976 ||| u * 281474976710656) m hx (by omega)
  rw [or_word u m hu h4] at e2
  obtain ⟨y,hy⟩:∃ y,y=1152921504606846976 ||| u * 281474976710656:=⟨_,rfl⟩
  rw [← hy] at e1 e2
  clear hy hx
  go_enter Try.func105,Try.ntmps105
  go_wp2_with fail
  refine (HR.out _).mono ?_
  rintro e w1 ⟨rfl,hb⟩
  obtain ⟨hc,hf⟩:=bcell hb
  have c0:w1.cell? ⟨w.heap.size,0,none⟩=some (.int .i64 (u:Int)):=by rw [hc _ _ (by simp)]; simp [go_sem]
  have c1:w1.cell? ⟨w.heap.size,1,none⟩=some (.int .u64 (m:Int)):=by rw [hc _ _ (by simp)]; simp [go_sem]
  have HB:=Lib.hid hb
  clear hb hc hf
  go_wp2
  go_ret
  exact ⟨ret_u64 (by first | rfl | (simp; done) | omega),Below.trans ((Below.refl _ _).alloc (Nat.le_refl _) _) (HB.out.mono (by simp))⟩
end
section
open Go.RowKit
structure But (q:Nat) (w w':World):Prop where
 below:Below q w w'
 rest:∀ b,b < w.heap.size→b ≠ q→w'.heap[b]?=w.heap[b]?
theorem But.of {q:Nat} {w w':World} (h:Below w.heap.size w w') (hq:q≤w.heap.size):But q w w':=⟨h.mono hq,fun b hb _ => h.block b hb⟩
theorem But.trans {q:Nat} {a b c:World} (h:But q a b) (k:But q b c):But q a c :=
 ⟨h.below.trans k.below,fun x hx hne => (k.rest x (Nat.lt_of_lt_of_le hx h.below.size) hne).trans (h.rest x hx hne)⟩
theorem But.cell {q:Nat} {w w':World} (h:But q w w') {p:Addr} (hp:p.block < w.heap.size) (hq:p.block ≠ q):w'.cell? p=w.cell? p :=
 World.cell?_of_block (w:=w) (h.rest p.block hp hq)
theorem But.frozen {q:Nat} {w w':World} (h:But q w w') {p:Addr} (hp:p.block < w.heap.size) (hq:p.block ≠ q):w'.frozen? p=w.frozen? p :=
 World.frozen?_of_block (w:=w) (h.rest p.block hp hq)
theorem But.set {q:Nat} {w:World} (o:Nat) (v:Value):But q w (w.setCell ⟨q,o,none⟩ v) :=
 ⟨(Below.refl q w).setCell (Nat.le_refl _) v,fun b _ hne => Below.heap_setCell _ _ _ _ hne⟩
end
section
open Go.RowKit Go.WideShapes Go.ChangeShapes
def kv (k:IntKind) (l:List Int):List Value:=l.map fun n => .int k n
section
variable {H:Type} {enc:TypeId × Value→H} {P:Program} {w:World} {held:Bool}
end
end
end Go.Proofs.Ythloabdfkakehaa
