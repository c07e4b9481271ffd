/-
  Words and contracts that a statement's proof rests on (Kit2, Turn, KeyA, KeyB, But). No statement is proved here.
-/
import Derived.IntWalk
import Derived.Laws.Bits64
import Derived.Deep.RegionHeld3
import Derived.Test.YthloabdfkakehaaBase2
import Derived.Test.YthloabdfkakehaaTicks
import Derived.Test.YthloabdfkakehaaPlainBu
set_option linter.unusedVariables false
set_option linter.unusedSimpArgs false
namespace Go.Proofs.Ythloabdfkakehaa
section
open Go.RowKit
end
section
open Go.RowKit
def mixS (d c x:Int):Int:=IntKind.u64.wrap (bits .xor .u64 x (x / d) * c)
def mixZ (n:Int):Int:=mixS 134217728 10723151780598845931 (mixS 1073741824 13787848793156543929 (IntKind.u64.wrap (n + 11400714819323198485)))
def mixI (n:Int):Int:=bits .xor .u64 (mixZ n) (mixZ n / 2147483648)
theorem u64_wrap_bd (y:Int):0≤IntKind.u64.wrap y∧IntKind.u64.wrap y < 18446744073709551616:=by
 rw [IntKind.wrap_u64]; omega
theorem mixI_bd (n:Int):0≤mixI n∧mixI n < 18446744073709551616:=by
 obtain ⟨h0,h1⟩:=u64_wrap_bd (bits .xor .u64 (mixS 1073741824 13787848793156543929 (IntKind.u64.wrap (n + 11400714819323198485))) (mixS 1073741824 13787848793156543929 (IntKind.u64.wrap (n + 11400714819323198485)) / 134217728) * 10723151780598845931)
 change 0≤mixZ n at h0
 change mixZ n < _ at h1
 unfold mixI
 generalize mixZ n=x at *
 obtain ⟨X,rfl⟩:=Int.eq_ofNat_of_zero_le h0
 have hX:X < 18446744073709551616:=by omega
 have:=xorShift_u64 X 2147483648 hX
 rw [show ((2147483648:Nat):Int)=2147483648 from rfl] at this
 rw [this]
 have h2:X ^^^ X / 2147483648 < 2 ^ 64:=Nat.xor_lt_two_pow (by omega) (by omega)
 omega
theorem turn_Mix (n:Int) (hn:0≤n∧n < 18446744073709551616) (w:World) :
  Calls Try.prog 104 #[.int .u64 n] w fun e w' => e=.returned (.int .u64 (mixI n))∧w=w':=by
 clear hn
 go_enter Try.func104,Try.ntmps104
 go_wp2
 go_ret
 exact ⟨rfl,rfl⟩
end
section
open Go.RowKit
set_option maxHeartbeats 1600000 in
theorem key_Right (v:Int) (m:Nat) (hm:m < 18446744073709551616) (w:World) :
  Calls Try.prog 81 #[.agg #[.int .i64 v,.int .u64 (m:Int)]] w (Says (.bool (rightK v m)) w):=by
 have hg:(0:Int)≤(m:Int):=Int.natCast_nonneg _
 have hR:=fun W => mac_Right m hm W
 have hK:=fun W => mac_Kind m hm W
 rcases (show (v < 1) ∨ (1≤v∧4094 < v) ∨ (1≤v∧v≤4094∧m=0) ∨ (1≤v∧v≤4094∧0 < m∧281474976710656≤m) ∨ (1≤v∧v≤4094∧0 < m∧m < 281474976710656∧m / 1099511627776 % 2 ≠ 0) ∨ (1≤v∧v≤4094∧0 < m∧m < 281474976710656∧m / 1099511627776 % 2=0) by omega) with h | ⟨h,h1⟩ | ⟨h,h1,h2⟩ | ⟨h,h1,h2,h3⟩ | ⟨h,h1,h2,h3,h4⟩ | ⟨h,h1,h2,h3,h4⟩
 ·rw [rightK_no (by omega)]
  clear hR hK hm hg
  go_enter Try.func81,Try.ntmps81
  go_wp2
  go_ret
  exact ⟨ret_bool (by first | rfl | (simp; omega)),((Below.refl _ _).alloc (Nat.le_refl _) _)⟩
 ·rw [rightK_no (by omega)]
  clear hR hK hm hg
  go_enter Try.func81,Try.ntmps81
  go_wp2
  go_ret
  exact ⟨ret_bool (by first | rfl | (simp; omega)),((Below.refl _ _).alloc (Nat.le_refl _) _)⟩
 ·rw [rightK_no (by omega)]
  subst h2
  clear hR hK hm hg
  go_enter Try.func81,Try.ntmps81
  go_wp2
  go_ret
  exact ⟨ret_bool (by first | rfl | (simp; omega)),((Below.refl _ _).alloc (Nat.le_refl _) _)⟩
 ·rw [rightK_no (by omega)]
  have h5:¬ (m:Int)=0:=by omega
  rw [decide_eq_false (by omega)] at hR
  clear hK
  have HR:=Lib.hid hR
  clear hR
  clear hm
  go_enter Try.func81,Try.ntmps81
  go_wp2_with fail
  refine (HR.out _).mono ?_
  rintro e w1 ⟨rfl,rfl⟩
  go_wp2
  go_ret
  exact ⟨ret_bool (by first | rfl | (simp; omega)),((Below.refl _ _).alloc (Nat.le_refl _) _)⟩
 ·rw [rightK_no (by omega)]
  have h5:¬ (m:Int)=0:=by omega
  rw [decide_eq_true (by omega)] at hR
  have h6:¬ kindN m=0:=fun hh => h4 ((kind_zero h3).1 hh)
  generalize kindN m=k at *
  have h7:¬ (k:Int)=0:=by omega
  have HK:=Lib.hid hK
  clear hK
  have HR:=Lib.hid hR
  clear hR
  clear h4
  clear hm
  go_enter Try.func81,Try.ntmps81
  go_wp2_with fail
  refine (HR.out _).mono ?_
  rintro e w1 ⟨rfl,rfl⟩
  go_wp2_with fail
  refine (HK.out _).mono ?_
  rintro e w2 ⟨rfl,rfl⟩
  go_wp2
  go_ret
  exact ⟨ret_bool (by first | rfl | (simp; omega)),((Below.refl _ _).alloc (Nat.le_refl _) _)⟩
 ·rw [rightK_iff.2 ⟨h,h1,h2,h3,h4⟩]
  have h5:¬ (m:Int)=0:=by omega
  rw [decide_eq_true (by omega)] at hR
  rw [(kind_zero h3).2 h4] at hK
  have HK:=Lib.hid hK
  clear hK
  have HR:=Lib.hid hR
  clear hR
  clear h4
  clear hm
  go_enter Try.func81,Try.ntmps81
  go_wp2_with fail
  refine (HR.out _).mono ?_
  rintro e w1 ⟨rfl,rfl⟩
  go_wp2_with fail
  refine (HK.out _).mono ?_
  rintro e w2 ⟨rfl,rfl⟩
  go_wp2
  go_ret
  exact ⟨ret_bool (by first | rfl | (simp; omega)),((Below.refl _ _).alloc (Nat.le_refl _) _)⟩
set_option maxHeartbeats 1600000 in
theorem key_Word (v:Int) (m:Nat) (hm:m < 18446744073709551616) (w:World) :
  Calls Try.prog 105 #[.agg #[.int .i64 v,.int .u64 (m:Int)]] w (Says (.int .u64 (wordN v m:Nat)) w):=by
 have hR:=fun W => key_Right v m hm W
 cases hr:rightK v m
 ·rw [hr] at hR
  rw [wordN_no hr]
  have HR:=Lib.hid hR
  clear hR hr hm
  go_enter Try.func105,Try.ntmps105
  go_wp2_with fail
  refine (HR.out _).mono ?_
  rintro e w1 ⟨rfl,hb⟩
  have HB:=Lib.hid hb
  clear hb
  go_wp2
  go_ret
  exact ⟨rfl,Below.trans ((Below.refl _ _).alloc (Nat.le_refl _) _) (HB.out.mono (by simp))⟩
 ·rw [hr] at hR
  rw [wordN_yes hr]
  obtain ⟨h1,h2,h3,h4,h5⟩:=rightK_iff.1 hr
  have HR:=Lib.hid hR
  clear hR hr hm h5
  obtain ⟨u,rfl⟩:=Int.eq_ofNat_of_zero_le (show 0≤v by omega)
  rw [Int.toNat_natCast]
  have hu:u < 4096:=by omega
  have e1:bits .or .u64 1152921504606846976 ((u:Int) * 281474976710656)=((1152921504606846976 ||| u * 281474976710656:Nat):Int):=by
   have:=u64_or_nat 1152921504606846976 (u * 281474976710656) (by omega) (by omega)
   simpa using this
  have hx:1152921504606846976 ||| u * 281474976710656 < 18446744073709551616:=by
   have:=or_word u 0 hu (by omega)
   rw [Nat.or_zero] at this
   omega
  have e2:=u64_or_nat (1152921504606846976 ||| u * 281474976710656) m hx (by omega)
  rw [or_word u m hu h4] at e2
  obtain ⟨y,hy⟩:∃ y,y=1152921504606846976 ||| u * 281474976710656:=⟨_,rfl⟩
  rw [← hy] at e1 e2
  clear hy hx
  go_enter Try.func105,Try.ntmps105
  go_wp2_with fail
  refine (HR.out _).mono ?_
  rintro e w1 ⟨rfl,hb⟩
  obtain ⟨hc,hf⟩:=bcell hb
  have c0:w1.cell? ⟨w.heap.size,0,none⟩=some (.int .i64 (u:Int)):=by rw [hc _ _ (by simp)]; simp [go_sem]
  have c1:w1.cell? ⟨w.heap.size,1,none⟩=some (.int .u64 (m:Int)):=by rw [hc _ _ (by simp)]; simp [go_sem]
  have HB:=Lib.hid hb
  clear hb hc hf
  go_wp2
  go_ret
  exact ⟨ret_u64 (by first | rfl | (simp; done) | omega),Below.trans ((Below.refl _ _).alloc (Nat.le_refl _) _) (HB.out.mono (by simp))⟩
end
section
open Go.RowKit
def ofV (a:Nat):Int:=if okW a=true then (vidW a:Int) else 0
def ofM (a:Nat):Nat:=if okW a=true then macW a else 0
def keyT (a:Nat):Value:=.tuple #[.agg #[.int .i64 (ofV a),.int .u64 (ofM a:Nat)],.bool (okW a)]
theorem keyT_no {a:Nat} (h:okW a=false):keyT a=.tuple #[.agg #[.int .i64 0,.int .u64 0],.bool false]:=by
 unfold keyT ofV ofM; rw [h]; rfl
theorem keyT_yes {a:Nat} (h:okW a=true):keyT a=.tuple #[.agg #[.int .i64 (vidW a:Int),.int .u64 (macW a:Nat)],.bool true]:=by
 unfold keyT ofV ofM; rw [h]; rfl
set_option maxHeartbeats 1600000 in
theorem key_Of (a:Nat) (ha:a < 18446744073709551616) (w:World) :
  Calls Try.prog 106 #[.int .u64 (a:Int)] w (Says (keyT a) w):=by
 have h1:bits .and .u64 ((a:Int) / 281474976710656) 4095=((vidW a:Nat):Int):=by
  have:=u64_and_nat (a / 281474976710656) 4095 (by omega) (by omega)
  rw [and_4095] at this
  unfold vidW
  rw [← this]
  simp
 have h2:bits .and .u64 (a:Int) 281474976710655=((macW a:Nat):Int):=by
  have:=u64_and_nat a 281474976710655 ha (by omega)
  rw [and_low] at this
  exact this
 have hv:vidW a < 4096:=Nat.mod_lt _ (by omega)
 have hm:macW a < 281474976710656:=Nat.mod_lt _ (by omega)
 have hk:=okW_word a ha
 have hR:=fun W => key_Right (vidW a:Int) (macW a) (by omega) W
 have hW:=fun W => key_Word (vidW a:Int) (macW a) (by omega) W
 have hno:okW a=false→keyT a=.tuple #[.agg #[.int .i64 0,.int .u64 0],.bool false]:=keyT_no
 have hyes:okW a=true→keyT a=.tuple #[.agg #[.int .i64 (vidW a:Int),.int .u64 (macW a:Nat)],.bool true]:=keyT_yes
 generalize keyT a=t at *
 generalize vidW a=v at *
 generalize macW a=m at *
 cases hr:rightK (v:Int) m
 ·rw [hr,Bool.false_and] at hk
  rw [hno hk]
  rw [hr] at hR
  have HR:=Lib.hid hR
  clear hno hyes hk hr hR hW
  go_enter Try.func106,Try.ntmps106
  go_wp2_with fail
  refine (HR.out _).mono ?_
  rintro e w1 ⟨rfl,hb⟩
  obtain ⟨hc,hf⟩:=bcell hb
  have c0:∀ o,w1.frozen? ⟨w.heap.size,o,none⟩=false:=fun o => by rw [hf _ _ (by simp; omega)]; simp [go_sem]
  have c1:w1.cell? ⟨w.heap.size,0,none⟩=some (.int .i64 0):=by rw [hc _ _ (by simp; omega)]; simp [go_sem]
  have c2:w1.cell? ⟨w.heap.size,1,none⟩=some (.int .u64 0):=by rw [hc _ _ (by simp; omega)]; simp [go_sem]
  have hB1:Below w.heap.size w w1:=Below.trans (by (repeat' (first | (with_reducible exact Below.refl _ _) | (with_reducible refine Below.setCell ?_ ?_ _) | (with_reducible refine Below.alloc ?_ ?_ _) | go_size))) (hb.mono (by go_size))
  clear hc hf hb
  go_wp2
  exact bodyPost_ret (v:=.tuple #[.agg #[.int .i64 0,.int .u64 0],.bool false]) (by simp [results,Try.results106,go_sem,c1,c2]) rfl ⟨rfl,(by (repeat' (first | (with_reducible exact Below.refl _ _) | (with_reducible assumption) | (with_reducible refine Below.setCell ?_ ?_ _) | (with_reducible refine Below.alloc ?_ ?_ _) | go_size)))⟩
 ·rw [hr,Bool.true_and] at hk
  rw [hr] at hR
  have HR:=Lib.hid hR
  have hq:wordN (v:Int) m=a ∨ wordN (v:Int) m ≠ a:=Decidable.em _
  obtain ⟨y,hy⟩:∃ y,y=wordN (v:Int) m:=⟨_,rfl⟩
  rw [← hy] at hk hW hq
  have HW:=Lib.hid hW
  clear hr hR hW hy
  rcases hq with hq | hq
  ·subst hq
   rw [hyes (by rw [hk]; simp)]
   clear hno hyes hk
   go_enter Try.func106,Try.ntmps106
   go_wp2_with fail
   refine (HR.out _).mono ?_
   rintro e w1 ⟨rfl,hb⟩
   obtain ⟨hc,hf⟩:=bcell hb
   have c0:∀ o,w1.frozen? ⟨w.heap.size,o,none⟩=false:=fun o => by rw [hf _ _ (by simp; omega)]; simp [go_sem]
   have c1:w1.cell? ⟨w.heap.size,0,none⟩=some (.int .i64 0):=by rw [hc _ _ (by simp; omega)]; simp [go_sem]
   have c2:w1.cell? ⟨w.heap.size,1,none⟩=some (.int .u64 0):=by rw [hc _ _ (by simp; omega)]; simp [go_sem]
   have e1:w1.cell? ⟨w.heap.size + 1,0,none⟩=some (.int .i64 (v:Int)):=by rw [hc _ _ (by simp)]; simp [go_sem]
   have e2:w1.cell? ⟨w.heap.size + 1,1,none⟩=some (.int .u64 (m:Int)):=by rw [hc _ _ (by simp)]; simp [go_sem]
   have hB1:Below w.heap.size w w1:=Below.trans (by (repeat' (first | (with_reducible exact Below.refl _ _) | (with_reducible refine Below.setCell ?_ ?_ _) | (with_reducible refine Below.alloc ?_ ?_ _) | go_size))) (hb.mono (by go_size))
   have hz1:w.heap.size + 2≤w1.heap.size:=by have:=hb.size; simp at this; omega
   clear hc hf hb
   go_wp2_with fail
   refine (HW.out _).mono ?_
   rintro e w2 ⟨rfl,hb⟩
   obtain ⟨hc,hf⟩:=bcell hb
   have d0:∀ o,w2.frozen? ⟨w.heap.size,o,none⟩=false:=fun o => by rw [hf _ _ (by omega)]; exact c0 o
   have d1:=(hc w.heap.size 0 (by omega)).trans c1
   have d2:=(hc w.heap.size 1 (by omega)).trans c2
   have f1:=(hc (w.heap.size + 1) 0 (by omega)).trans e1
   have f2:=(hc (w.heap.size + 1) 1 (by omega)).trans e2
   have hB2:=hB1.trans (hb.mono (by omega))
   clear hc hf hb c0 c1 c2 e1 e2 hB1
   go_wp2
   exact bodyPost_ret (v:=.tuple #[.agg #[.int .i64 (v:Int),.int .u64 (m:Int)],.bool true]) (by simp [results,Try.results106,go_sem,d1,d2]) rfl ⟨rfl,(by (repeat' (first | (with_reducible exact Below.refl _ _) | (with_reducible assumption) | (with_reducible refine Below.setCell ?_ ?_ _) | (with_reducible refine Below.alloc ?_ ?_ _) | go_size)))⟩
  ·rw [hno (by rw [hk]; simpa using hq)]
   have hq':¬ (y:Int)=(a:Int):=by omega
   clear hno hyes hk hq
   go_enter Try.func106,Try.ntmps106
   go_wp2_with fail
   refine (HR.out _).mono ?_
   rintro e w1 ⟨rfl,hb⟩
   obtain ⟨hc,hf⟩:=bcell hb
   have c0:∀ o,w1.frozen? ⟨w.heap.size,o,none⟩=false:=fun o => by rw [hf _ _ (by simp; omega)]; simp [go_sem]
   have c1:w1.cell? ⟨w.heap.size,0,none⟩=some (.int .i64 0):=by rw [hc _ _ (by simp; omega)]; simp [go_sem]
   have c2:w1.cell? ⟨w.heap.size,1,none⟩=some (.int .u64 0):=by rw [hc _ _ (by simp; omega)]; simp [go_sem]
   have e1:w1.cell? ⟨w.heap.size + 1,0,none⟩=some (.int .i64 (v:Int)):=by rw [hc _ _ (by simp)]; simp [go_sem]
   have e2:w1.cell? ⟨w.heap.size + 1,1,none⟩=some (.int .u64 (m:Int)):=by rw [hc _ _ (by simp)]; simp [go_sem]
   have hB1:Below w.heap.size w w1:=Below.trans (by (repeat' (first | (with_reducible exact Below.refl _ _) | (with_reducible refine Below.setCell ?_ ?_ _) | (with_reducible refine Below.alloc ?_ ?_ _) | go_size))) (hb.mono (by go_size))
   have hz1:w.heap.size + 2≤w1.heap.size:=by have:=hb.size; simp at this; omega
   clear hc hf hb
   go_wp2_with fail
   refine (HW.out _).mono ?_
   rintro e w2 ⟨rfl,hb⟩
   obtain ⟨hc,hf⟩:=bcell hb
   have d0:∀ o,w2.frozen? ⟨w.heap.size,o,none⟩=false:=fun o => by rw [hf _ _ (by omega)]; exact c0 o
   have d1:=(hc w.heap.size 0 (by omega)).trans c1
   have d2:=(hc w.heap.size 1 (by omega)).trans c2
   have hB2:=hB1.trans (hb.mono (by omega))
   clear hc hf hb c0 c1 c2 e1 e2 hB1
   go_wp2
   exact bodyPost_ret (v:=.tuple #[.agg #[.int .i64 0,.int .u64 0],.bool false]) (by simp [results,Try.results106,go_sem,d1,d2]) rfl ⟨rfl,(by (repeat' (first | (with_reducible exact Below.refl _ _) | (with_reducible assumption) | (with_reducible refine Below.setCell ?_ ?_ _) | (with_reducible refine Below.alloc ?_ ?_ _) | go_size)))⟩
end
section
open Go.RowKit
structure But (q:Nat) (w w':World):Prop where
 below:Below q w w'
 rest:∀ b,b < w.heap.size→b ≠ q→w'.heap[b]?=w.heap[b]?
theorem But.of {q:Nat} {w w':World} (h:Below w.heap.size w w') (hq:q≤w.heap.size):But q w w':=⟨h.mono hq,fun b hb _ => h.block b hb⟩
theorem But.trans {q:Nat} {a b c:World} (h:But q a b) (k:But q b c):But q a c :=
 ⟨h.below.trans k.below,fun x hx hne => (k.rest x (Nat.lt_of_lt_of_le hx h.below.size) hne).trans (h.rest x hx hne)⟩
theorem But.cell {q:Nat} {w w':World} (h:But q w w') {p:Addr} (hp:p.block < w.heap.size) (hq:p.block ≠ q):w'.cell? p=w.cell? p :=
 World.cell?_of_block (w:=w) (h.rest p.block hp hq)
theorem But.frozen {q:Nat} {w w':World} (h:But q w w') {p:Addr} (hp:p.block < w.heap.size) (hq:p.block ≠ q):w'.frozen? p=w.frozen? p :=
 World.frozen?_of_block (w:=w) (h.rest p.block hp hq)
theorem But.set {q:Nat} {w:World} (o:Nat) (v:Value):But q w (w.setCell ⟨q,o,none⟩ v) :=
 ⟨(Below.refl q w).setCell (Nat.le_refl _) v,fun b _ hne => Below.heap_setCell _ _ _ _ hne⟩
end
end Go.Proofs.Ythloabdfkakehaa
