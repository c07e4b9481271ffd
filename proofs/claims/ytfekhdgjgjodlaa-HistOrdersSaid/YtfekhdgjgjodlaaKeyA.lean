/-
  Words and contracts that a statement's proof rests on (PlainVlanC, PlainMo, Keep, KeyA). No statement is proved here.
-/
import Derived.Deep.RegionHeld3
import Derived.Test.YtfekhdgjgjodlaaBase
import Derived.Test.YtfekhdgjgjodlaaPlainKy
import Derived.Test.YtfekhdgjgjodlaaTicks
import Derived.Test.YtfekhdgjgjodlaaPlainPt
set_option linter.unusedVariables false
set_option linter.unusedSimpArgs false
namespace Go.Proofs.Ytfekhdgjgjodlaa
section
def withinK (a b:Nat):Nat→Bool
 | 0 => true
 | k + 1 => withinK a b k && !(a.testBit k && !b.testBit k)
def withinB (a b:Nat):Bool:=withinK a b 64
theorem withinK_iff (a b:Nat):∀ k,withinK a b k=true ↔ ∀ i,i < k→a.testBit i=true→b.testBit i=true
 | 0 => by simp [withinK]
 | k + 1 => by
  rw [withinK,Bool.and_eq_true,withinK_iff a b k]
  constructor
  ·rintro ⟨h1,h2⟩ i hi ha
   rcases Nat.lt_or_ge i k with h | h
   ·exact h1 i h ha
   ·obtain rfl:i=k:=by omega
    rw [ha] at h2
    simpa using h2
  ·intro h
   refine ⟨fun i hi => h i (by omega),?_⟩
   cases hk:a.testBit k
   ·rfl
   ·rw [h k (by omega) hk]; rfl
theorem andNot_within {a b:Nat} (ha:a < 18446744073709551616) (hb:b < 18446744073709551616):(((a &&& (18446744073709551615 - b):Nat):Int) != 0)=!withinB a b:=by
 have e:18446744073709551615 - b=2 ^ 64 - (b + 1):=by omega
 have hz:(a &&& (18446744073709551615 - b)=0) ↔ withinB a b=true:=by
  unfold withinB
  rw [withinK_iff,e]
  constructor
  ·intro h i hi hai
   have h2:=congrArg (fun x => x.testBit i) h
   simp only [Nat.testBit_and,Nat.zero_testBit] at h2
   rw [Nat.testBit_two_pow_sub_succ (by omega),hai] at h2
   simpa [hi] using h2
  ·intro h
   apply Nat.eq_of_testBit_eq
   intro i
   rw [Nat.testBit_and,Nat.zero_testBit,Nat.testBit_two_pow_sub_succ (by omega)]
   by_cases hi:i < 64
   ·cases hai:a.testBit i
    ·rfl
    ·rw [h i hi hai]; simp
   ·have:a.testBit i=false:=Nat.testBit_lt_two_pow (Nat.lt_of_lt_of_le ha (show 2 ^ 64≤2 ^ i from Nat.pow_le_pow_right (by omega) (by omega)))
    simp [this]
 generalize a &&& (18446744073709551615 - b)=x at *
 cases h:withinB a b
 ·have:¬ x=0:=fun hx => by rw [hz.1 hx] at h; cases h
  simp; omega
 ·have:=hz.2 h
  subst this
  rfl
def allN (n:Int):Nat:=if 64≤n then 18446744073709551615 else 2 ^ n.toNat - 1
theorem allN_lt (n:Int):allN n < 18446744073709551616:=by
 unfold allN
 split
 ·omega
 ·rename_i h
  have:=bit_lt (show n.toNat < 64 by omega)
  omega
theorem with_ones (k:Nat) (hk:k < 64):withN (2 ^ k - 1) (k:Int)=2 ^ (k + 1) - 1:=by
 have h0:=Nat.two_pow_pos k
 have h1:=bit_lt hk
 rw [withN_in _ hk,or_bit_add (by omega) hk (by rw [Nat.testBit_two_pow_sub_one]; simp),Nat.pow_succ]
 omega
def vidB (v:Int):Bool:=decide (1≤v) && decide (v≤4094)
def ruleB (p a:Int):Bool:=vidB p && (decide (0≤a) && decide (a≤2))
def wrongAt (l:List Vl) (ports:Int) (i:Nat):Nat :=
 if vidB (l.getD i vl0).vid=false ∨ (0 < i∧(l.getD i vl0).vid≤(l.getD (i - 1) vl0).vid) then 6
 else if withinB (l.getD i vl0).mem (allN ports)=false then 5
 else if withinB (l.getD i vl0).unt (l.getD i vl0).mem=false then 1 else 0
def firstW (f:Nat→Nat):Nat→Nat
 | 0 => 0
 | k + 1 => if firstW f k=0 then f k else firstW f k
theorem firstW_none (f:Nat→Nat):∀ k,(∀ i,i < k→f i=0)→firstW f k=0
 | 0,_ => rfl
 | k + 1,h => by
  rw [firstW,firstW_none f k fun i hi => h i (by omega),if_pos rfl]
  exact h k (by omega)
theorem firstW_at (f:Nat→Nat) (k:Nat) (h:∀ i,i < k→f i=0) (hk:f k ≠ 0):∀ n,k < n→firstW f n=f k
 | 0,h0 => by omega
 | n + 1,h0 => by
  rw [firstW]
  rcases Nat.lt_or_ge k n with h1 | h1
  ·rw [firstW_at f k h hk n h1,if_neg hk]
  ·obtain rfl:k=n:=by omega
   rw [firstW_none f k h,if_pos rfl]
def checkN (l:List Vl) (ports:Int) (n:Nat):Nat:=if ports < 2 ∨ 64 < ports then 5 else if 16 < n then 8 else firstW (wrongAt l ports) n
theorem check5 {l:List Vl} {ports:Int} {n:Nat} (h:ports < 2 ∨ 64 < ports):checkN l ports n=5:=by unfold checkN; rw [if_pos h]
theorem check8 {l:List Vl} {ports:Int} {n:Nat} (h:¬ (ports < 2 ∨ 64 < ports)) (h2:16 < n):checkN l ports n=8:=by unfold checkN; rw [if_neg h,if_pos h2]
theorem check0 {l:List Vl} {ports:Int} {n:Nat} (h:¬ (ports < 2 ∨ 64 < ports)) (h2:¬ 16 < n) (h3:∀ i,i < n→wrongAt l ports i=0):checkN l ports n=0:=by unfold checkN; rw [if_neg h,if_neg h2]; exact firstW_none _ _ h3
theorem checkAt {l:List Vl} {ports:Int} {n k E:Nat} (h:¬ (ports < 2 ∨ 64 < ports)) (h2:¬ 16 < n) (h3:∀ i,i < k→wrongAt l ports i=0) (hk:k < n) (he:wrongAt l ports k=E) (hE:E ≠ 0):checkN l ports n=E:=by
 unfold checkN; rw [if_neg h,if_neg h2,firstW_at _ k h3 (by rw [he]; exact hE) n hk]; exact he
end
section
open Go.RowKit
structure Rl where
 pv:Int
 ac:Int
def rl0:Rl:=⟨0,0⟩
def Rl.cells (x:Rl):List Value:=[.int .i64 x.pv,.int .i64 x.ac]
def rlc:List Rl→List Value
 | [] => []
 | x :: l => x.cells ++ rlc l
theorem rlc_length:∀ l:List Rl,(rlc l).length=l.length * 2
 | [] => rfl
 | x :: l => by
  have:=rlc_length l
  simp [rlc,Rl.cells,this]
  omega
theorem rlc_append:∀ a b:List Rl,rlc (a ++ b)=rlc a ++ rlc b
 | [],b => rfl
 | x :: a,b => by simp [rlc,rlc_append a b]
theorem rlc_at:∀ (l:List Rl) (j f:Nat),f < 2→(rlc l)[j * 2 + f]?=(l[j]?).bind fun x => x.cells[f]?
 | [],j,f,_ => by simp [rlc]
 | x :: l,0,f,h => by
  rw [rlc,List.getElem?_append_left (by simp [Rl.cells]; omega)]
  simp
 | x :: l,j + 1,f,h => by
  have:=rlc_at l j f h
  rw [rlc,List.getElem?_append_right (by simp [Rl.cells]; omega)]
  have e:(j + 1) * 2 + f - x.cells.length=j * 2 + f:=by simp [Rl.cells]; omega
  rw [e,this]
  simp
theorem Sl.rlAt {w:World} {B n:Nat} {v:Value} {l:List Rl} (h:Sl w B 2 v n (rlc l)) (hn:0 < n) :
  ∃ b off cap,v=.slice (some ⟨b,off,none⟩) n cap∧n≤cap∧cap≤maxLen∧b < B∧l.length=n ∧
   ∀ j,j < n→w.cell? ⟨b,off + j * 2,none⟩=some (.int .i64 (l.getD j rl0).pv)∧w.cell? ⟨b,off + j * 2 + 1,none⟩=some (.int .i64 (l.getD j rl0).ac):=by
 have hl:=h.len
 rw [rlc_length] at hl
 obtain ⟨b,off,cap,rfl,h1,h2,h3,h4⟩:=h.at_ hn
 refine ⟨b,off,cap,rfl,h1,h2,h3,by omega,fun j hj => ?_⟩
 have hjl:j < l.length:=by omega
 have a0:=h4 (j * 2 + 0) (by omega)
 have a1:=h4 (j * 2 + 1) (by omega)
 rw [rlc_at l j _ (by omega),List.getElem?_eq_getElem hjl] at a0 a1
 simp only [List.getD_eq_getElem?_getD,List.getElem?_eq_getElem hjl,Option.getD_some]
 exact ⟨a0,a1⟩
theorem Sl.rlLen {w:World} {B n:Nat} {v:Value} {l:List Rl} (h:Sl w B 2 v n (rlc l)):l.length=n:=by
 have hl:=h.len
 rw [rlc_length] at hl
 omega
def badR (l:List Rl) (k:Nat):Bool:=!(ruleB (l.getD k rl0).pv (l.getD k rl0).ac)
def FirstBad (l:List Rl) (n m:Nat):Prop:=m≤n∧(∀ i,i < m→badR l i=false)∧(m < n→badR l m=true)
def withinI (n most:Int):Bool:=decide (1≤n) && decide (n≤most)
end
section
open Go.RowKit
theorem kp6 {w w':World} {b o0 o1 o2 o3 o4 o5:Nat} {v0 v1 v2 v3 v4 v5:Value} (h:w.cell? ⟨b,o0,none⟩=some v0∧w.cell? ⟨b,o1,none⟩=some v1∧w.cell? ⟨b,o2,none⟩=some v2∧w.cell? ⟨b,o3,none⟩=some v3∧w.cell? ⟨b,o4,none⟩=some v4∧w.cell? ⟨b,o5,none⟩=some v5) (hk:∀ p:Addr,p.block=b→w'.cell? p=w.cell? p) :
  w'.cell? ⟨b,o0,none⟩=some v0∧w'.cell? ⟨b,o1,none⟩=some v1∧w'.cell? ⟨b,o2,none⟩=some v2∧w'.cell? ⟨b,o3,none⟩=some v3∧w'.cell? ⟨b,o4,none⟩=some v4∧w'.cell? ⟨b,o5,none⟩=some v5 :=
 ⟨(hk _ rfl).trans h.1,(hk _ rfl).trans h.2.1,(hk _ rfl).trans h.2.2.1,(hk _ rfl).trans h.2.2.2.1,(hk _ rfl).trans h.2.2.2.2.1,(hk _ rfl).trans h.2.2.2.2.2⟩
end
section
open Go.RowKit
set_option maxHeartbeats 1600000 in
theorem key_Right (v:Int) (m:Nat) (hm:m < 18446744073709551616) (w:World) :
  Calls Try.prog 90 #[.agg #[.int .i64 v,.int .u64 (m:Int)]] w (Says (.bool (rightK v m)) w):=by
 have hg:(0:Int)≤(m:Int):=Int.natCast_nonneg _
 have hR:=fun W => mac_Right m hm W
 have hK:=fun W => mac_Kind m hm W
 rcases (show (v < 1) ∨ (1≤v∧4094 < v) ∨ (1≤v∧v≤4094∧m=0) ∨ (1≤v∧v≤4094∧0 < m∧281474976710656≤m) ∨ (1≤v∧v≤4094∧0 < m∧m < 281474976710656∧m / 1099511627776 % 2 ≠ 0) ∨ (1≤v∧v≤4094∧0 < m∧m < 281474976710656∧m / 1099511627776 % 2=0) by omega) with h | ⟨h,h1⟩ | ⟨h,h1,h2⟩ | ⟨h,h1,h2,h3⟩ | ⟨h,h1,h2,h3,h4⟩ | ⟨h,h1,h2,h3,h4⟩
 ·rw [rightK_no (by omega)]
  clear hR hK hm hg
  go_enter Try.func90,Try.ntmps90
  go_wp2
  go_ret
  exact ⟨ret_bool (by first | rfl | (simp; omega)),((Below.refl _ _).alloc (Nat.le_refl _) _)⟩
 ·rw [rightK_no (by omega)]
  clear hR hK hm hg
  go_enter Try.func90,Try.ntmps90
  go_wp2
  go_ret
  exact ⟨ret_bool (by first | rfl | (simp; omega)),((Below.refl _ _).alloc (Nat.le_refl _) _)⟩
 ·rw [rightK_no (by omega)]
  subst h2
  clear hR hK hm hg
  go_enter Try.func90,Try.ntmps90
  go_wp2
  go_ret
  exact ⟨ret_bool (by first | rfl | (simp; omega)),((Below.refl _ _).alloc (Nat.le_refl _) _)⟩
 ·rw [rightK_no (by omega)]
  have h5:¬ (m:Int)=0:=by omega
  rw [decide_eq_false (by omega)] at hR
  clear hK
  have HR:=Lib.hid hR
  clear hR
  clear hm
  go_enter Try.func90,Try.ntmps90
  go_wp2_with fail
  refine (HR.out _).mono ?_
  rintro e w1 ⟨rfl,rfl⟩
  go_wp2
  go_ret
  exact ⟨ret_bool (by first | rfl | (simp; omega)),((Below.refl _ _).alloc (Nat.le_refl _) _)⟩
 ·rw [rightK_no (by omega)]
  have h5:¬ (m:Int)=0:=by omega
  rw [decide_eq_true (by omega)] at hR
  have h6:¬ kindN m=0:=fun hh => h4 ((kind_zero h3).1 hh)
  generalize kindN m=k at *
  have h7:¬ (k:Int)=0:=by omega
  have HK:=Lib.hid hK
  clear hK
  have HR:=Lib.hid hR
  clear hR
  clear h4
  clear hm
  go_enter Try.func90,Try.ntmps90
  go_wp2_with fail
  refine (HR.out _).mono ?_
  rintro e w1 ⟨rfl,rfl⟩
  go_wp2_with fail
  refine (HK.out _).mono ?_
  rintro e w2 ⟨rfl,rfl⟩
  go_wp2
  go_ret
  exact ⟨ret_bool (by first | rfl | (simp; omega)),((Below.refl _ _).alloc (Nat.le_refl _) _)⟩
 ·rw [rightK_iff.2 ⟨h,h1,h2,h3,h4⟩]
  have h5:¬ (m:Int)=0:=by omega
  rw [decide_eq_true (by omega)] at hR
  rw [(kind_zero h3).2 h4] at hK
  have HK:=Lib.hid hK
  clear hK
  have HR:=Lib.hid hR
  clear hR
  clear h4
  clear hm
  go_enter Try.func90,Try.ntmps90
  go_wp2_with fail
  refine (HR.out _).mono ?_
  rintro e w1 ⟨rfl,rfl⟩
  go_wp2_with fail
  refine (HK.out _).mono ?_
  rintro e w2 ⟨rfl,rfl⟩
  go_wp2
  go_ret
  exact ⟨ret_bool (by first | rfl | (simp; omega)),((Below.refl _ _).alloc (Nat.le_refl _) _)⟩
set_option maxHeartbeats 1600000 in
theorem key_Word (v:Int) (m:Nat) (hm:m < 18446744073709551616) (w:World) :
  Calls Try.prog 92 #[.agg #[.int .i64 v,.int .u64 (m:Int)]] w (Says (.int .u64 (wordN v m:Nat)) w):=by
 have hR:=fun W => key_Right v m hm W
 cases hr:rightK v m
 ·rw [hr] at hR
  rw [wordN_no hr]
  have HR:=Lib.hid hR
  clear hR hr hm
  go_enter Try.func92,Try.ntmps92
  go_wp2_with fail
  refine (HR.out _).mono ?_
  rintro e w1 ⟨rfl,hb⟩
  have HB:=Lib.hid hb
  clear hb
  go_wp2
  go_ret
  exact ⟨rfl,Below.trans ((Below.refl _ _).alloc (Nat.le_refl _) _) (HB.out.mono (by simp))⟩
 ·rw [hr] at hR
  rw [wordN_yes hr]
  obtain ⟨h1,h2,h3,h4,h5⟩:=rightK_iff.1 hr
  have HR:=Lib.hid hR
  clear hR hr hm h5
  obtain ⟨u,rfl⟩:=Int.eq_ofNat_of_zero_le (show 0≤v by omega)
  rw [Int.toNat_natCast]
  have hu:u < 4096:=by omega
  have e1:bits .or .u64 1152921504606846976 ((u:Int) * 281474976710656)=((1152921504606846976 ||| u * 281474976710656:Nat):Int):=by
   have:=u64_or_nat 1152921504606846976 (u * 281474976710656) (by omega) (by omega)
   simpa using this
  have hx:1152921504606846976 ||| u * 281474976710656 < 18446744073709551616:=by
   have:=or_word u 0 hu (by omega)
   rw [Nat.or_zero] at this
   omega
  have e2:=u64_or_nat (1152921504606846976 ||| u * 281474976710656) m hx (by omega)
  rw [or_word u m hu h4] at e2
  obtain ⟨y,hy⟩:∃ y,y=1152921504606846976 ||| u * 281474976710656:=⟨_,rfl⟩
  rw [← hy] at e1 e2
  clear hy hx
  go_enter Try.func92,Try.ntmps92
  go_wp2_with fail
  refine (HR.out _).mono ?_
  rintro e w1 ⟨rfl,hb⟩
  obtain ⟨hc,hf⟩:=bcell hb
  have c0:w1.cell? ⟨w.heap.size,0,none⟩=some (.int .i64 (u:Int)):=by rw [hc _ _ (by simp)]; simp [go_sem]
  have c1:w1.cell? ⟨w.heap.size,1,none⟩=some (.int .u64 (m:Int)):=by rw [hc _ _ (by simp)]; simp [go_sem]
  have HB:=Lib.hid hb
  clear hb hc hf
  go_wp2
  go_ret
  exact ⟨ret_u64 (by first | rfl | (simp; done) | omega),Below.trans ((Below.refl _ _).alloc (Nat.le_refl _) _) (HB.out.mono (by simp))⟩
end
end Go.Proofs.Ytfekhdgjgjodlaa
