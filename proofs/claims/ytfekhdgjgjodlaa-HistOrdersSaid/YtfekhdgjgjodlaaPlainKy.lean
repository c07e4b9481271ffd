/-
  Words and contracts that a statement's proof rests on (Plain, PlainVlan, PlainVl, PlainVlanB, PlainFrame, Mac, PlainKy). No statement is proved here.
-/
import Derived.Laws.BitsAllLaws
import Derived.Below
import Derived.Test.YtfekhdgjgjodlaaProg
import Derived.Handy
import Derived.WalkLawsBesides
import Derived.Lib.Hide
import Derived.Deep.QuietTactic
import Derived.BigQuiet
import Derived.Test.YtfekhdgjgjodlaaBase
import Derived.Test.YtfekhdgjgjodlaaTicks
set_option linter.unusedVariables false
set_option linter.unusedSimpArgs false
namespace Go.Proofs.Ytfekhdgjgjodlaa
section
theorem and_low (m:Nat):m &&& 281474976710655=m % 281474976710656:=by
 have:=Nat.and_two_pow_sub_one_eq_mod m 48
 simpa using this
theorem andNot_15 (a:Nat) (ha:a < 18446744073709551616):a &&& (18446744073709551615 - 15)=a / 16 * 16:=by
 have e1:(18446744073709551615 - 15:Nat)=(2 ^ 60 - 1) <<< 4:=by decide
 have e2:a / 16 * 16=(a >>> 4) <<< 4:=by rw [Nat.shiftLeft_eq,Nat.shiftRight_eq_div_pow]
 rw [e1,e2]
 apply Nat.eq_of_testBit_eq
 intro i
 simp only [Nat.testBit_and,Nat.testBit_shiftLeft,Nat.testBit_shiftRight,Nat.testBit_two_pow_sub_one]
 by_cases h4:i ≥ 4
 ·by_cases h64:i < 64
  ·have:i - 4 < 60:=by omega
   have e:4 + (i - 4)=i:=by omega
   simp [h4,this,e]
  ·have:a.testBit i=false:=Nat.testBit_lt_two_pow (Nat.lt_of_lt_of_le ha (by
    have:2 ^ 64≤2 ^ i:=Nat.pow_le_pow_right (by omega) (by omega)
    simpa using this))
   have e:4 + (i - 4)=i:=by omega
   simp [h4,this,e]
 ·simp [h4]
theorem and_bit (a k:Nat):a &&& 2 ^ k=(a / 2 ^ k % 2) * 2 ^ k:=by
 have hc:a.testBit k=decide (a / 2 ^ k % 2=1):=Nat.testBit_eq_decide_div_mod_eq ..
 have h2:a / 2 ^ k % 2=0 ∨ a / 2 ^ k % 2=1:=by omega
 apply Nat.eq_of_testBit_eq
 intro i
 rw [Nat.testBit_and,Nat.testBit_two_pow]
 by_cases hi:k=i
 ·subst hi
  rcases h2 with h | h <;> simp [hc,h]
 ·rcases h2 with h | h <;> simp [h,hi]
theorem and_40 (a:Nat):a &&& 1099511627776=(a / 1099511627776 % 2) * 1099511627776:=by
 have:=and_bit a 40
 simpa using this
def kindN (m:Nat):Nat :=
 if m % 281474976710656=281474976710655 then 2 else if m % 281474976710656 / 16 * 16=1652522221568 then 3 else m / 1099511627776 % 2
end
section
theorem bit_lt {p:Nat} (hp:p < 64):2 ^ p < 18446744073709551616:=Nat.lt_of_lt_of_eq (Nat.pow_lt_pow_right (by omega) hp) (by decide)
theorem and_one (s k:Nat):s &&& 2 ^ k=if s.testBit k=true then 2 ^ k else 0:=by
 apply Nat.eq_of_testBit_eq
 intro i
 rw [Nat.testBit_and,Nat.testBit_two_pow]
 split
 ·rename_i h
  rw [Nat.testBit_two_pow]
  by_cases hk:k=i
  ·subst hk; simp [h]
  ·simp [hk]
 ·rename_i h
  by_cases hk:k=i
  ·subst hk; simp [h]
  ·simp [hk]
theorem or_bit_same {s k:Nat} (h:s.testBit k=true):s ||| 2 ^ k=s:=by
 apply Nat.eq_of_testBit_eq
 intro i
 rw [Nat.testBit_or,Nat.testBit_two_pow]
 by_cases hk:k=i
 ·subst hk; simp [h]
 ·simp [hk]
theorem or_bit_add {s k:Nat} (hs:s < 18446744073709551616) (hk:k < 64) (h:s.testBit k=false):s ||| 2 ^ k=s + 2 ^ k:=by
 have h1:=bit_lt hk
 have hx:(BitVec.ofNat 65 s).toNat=s:=by rw [BitVec.toNat_ofNat]; exact Nat.mod_eq_of_lt (by omega)
 have hy:(BitVec.ofNat 65 (2 ^ k)).toNat=2 ^ k:=by rw [BitVec.toNat_ofNat]; exact Nat.mod_eq_of_lt (by omega)
 have h0:BitVec.ofNat 65 s &&& BitVec.ofNat 65 (2 ^ k)=0#65:=by
  apply BitVec.eq_of_toNat_eq
  rw [BitVec.toNat_and,hx,hy,and_one,h]
  rfl
 have:=congrArg BitVec.toNat (BitVec.add_eq_or_of_and_eq_zero _ _ h0)
 rw [BitVec.toNat_add,BitVec.toNat_or,hx,hy,Nat.mod_eq_of_lt (by omega)] at this
 exact this.symm
def hasB (s:Nat) (p:Int):Bool:=decide (0≤p∧p < 64) && s.testBit p.toNat
def withN (s:Nat) (p:Int):Nat:=if 0≤p∧p < 64 then s ||| 2 ^ p.toNat else s
theorem hasB_out (s:Nat) {p:Int} (hp:p < 0 ∨ 64≤p):hasB s p=false:=by
 unfold hasB
 rw [decide_eq_false (by omega)]; rfl
theorem hasB_in (s:Nat) {k:Nat} (hk:k < 64):hasB s (k:Int)=s.testBit k:=by
 unfold hasB
 rw [decide_eq_true (by omega),Int.toNat_natCast]; rfl
theorem has_and (s k:Nat):(((s &&& 2 ^ k:Nat):Int) != 0)=s.testBit k:=by
 rw [and_one]
 have:0 < 2 ^ k:=Nat.two_pow_pos k
 generalize 2 ^ k=y at *
 cases h:s.testBit k
 ·simp
 ·simp
  omega
theorem withN_out (s:Nat) {p:Int} (hp:p < 0 ∨ 64≤p):withN s p=s:=by unfold withN; rw [if_neg (by omega)]
theorem withN_in (s:Nat) {k:Nat} (hk:k < 64):withN s (k:Int)=s ||| 2 ^ k:=by unfold withN; rw [if_pos (by omega),Int.toNat_natCast]
theorem withN_lt {s:Nat} (hs:s < 18446744073709551616) (p:Int):withN s p < 18446744073709551616:=by
 unfold withN
 split
 ·exact Nat.or_lt_two_pow (n:=64) hs (bit_lt (by omega))
 ·exact hs
end
section
open Go.RowKit
structure Vl where
 vid:Int
 mem:Nat
 unt:Nat
def vl0:Vl:=⟨0,0,0⟩
def Vl.ok (x:Vl):Prop:=(-9223372036854775808≤x.vid∧x.vid≤9223372036854775807)∧x.mem < 18446744073709551616∧x.unt < 18446744073709551616
def Vl.cells (x:Vl):List Value:=[.int .i64 x.vid,.int .u64 (x.mem:Nat),.int .u64 (x.unt:Nat)]
def vlc:List Vl→List Value
 | [] => []
 | x :: l => x.cells ++ vlc l
theorem vlc_length:∀ l:List Vl,(vlc l).length=l.length * 3
 | [] => rfl
 | x :: l => by
  have:=vlc_length l
  simp [vlc,Vl.cells,this]
  omega
theorem vlc_append:∀ a b:List Vl,vlc (a ++ b)=vlc a ++ vlc b
 | [],b => rfl
 | x :: a,b => by simp [vlc,vlc_append a b]
theorem vlc_at:∀ (l:List Vl) (j f:Nat),f < 3→(vlc l)[j * 3 + f]?=(l[j]?).bind fun x => x.cells[f]?
 | [],j,f,_ => by simp [vlc]
 | x :: l,0,f,h => by
  rw [vlc,List.getElem?_append_left (by simp [Vl.cells]; omega)]
  simp
 | x :: l,j + 1,f,h => by
  have:=vlc_at l j f h
  rw [vlc,List.getElem?_append_right (by simp [Vl.cells]; omega)]
  have e:(j + 1) * 3 + f - x.cells.length=j * 3 + f:=by simp [Vl.cells]; omega
  rw [e,this]
  simp
theorem vlc_one (l:List Vl):∀ u ∈ vlc l,u.oneCell'=true:=by
 induction l with
 | nil => simp [vlc]
 | cons x l ih =>
  intro u hu
  rw [vlc,List.mem_append] at hu
  rcases hu with h | h
  ·simp [Vl.cells] at h
   rcases h with rfl | rfl | rfl <;> rfl
  ·exact ih u h
theorem vl_ok {l:List Vl} (h:∀ x ∈ l,x.ok) (k:Nat):(l.getD k vl0).ok:=by
 rw [List.getD_eq_getElem?_getD]
 rcases Nat.lt_or_ge k l.length with hk | hk
 ·rw [List.getElem?_eq_getElem hk]; exact h _ (List.getElem_mem hk)
 ·rw [List.getElem?_eq_none hk]
  simp [Vl.ok,vl0]
theorem Sl.vlAt {w:World} {B n:Nat} {v:Value} {l:List Vl} (h:Sl w B 3 v n (vlc l)) (hn:0 < n) :
  ∃ b off cap,v=.slice (some ⟨b,off,none⟩) n cap∧n≤cap∧cap≤maxLen∧b < B∧l.length=n ∧
   ∀ j,j < n→w.cell? ⟨b,off + j * 3,none⟩=some (.int .i64 (l.getD j vl0).vid)∧w.cell? ⟨b,off + j * 3 + 1,none⟩=some (.int .u64 ((l.getD j vl0).mem:Nat))∧w.cell? ⟨b,off + j * 3 + 2,none⟩=some (.int .u64 ((l.getD j vl0).unt:Nat)):=by
 have hl:=h.len
 rw [vlc_length] at hl
 obtain ⟨b,off,cap,rfl,h1,h2,h3,h4⟩:=h.at_ hn
 refine ⟨b,off,cap,rfl,h1,h2,h3,by omega,fun j hj => ?_⟩
 have hjl:j < l.length:=by omega
 have a0:=h4 (j * 3 + 0) (by omega)
 have a1:=h4 (j * 3 + 1) (by omega)
 have a2:=h4 (j * 3 + 2) (by omega)
 rw [vlc_at l j _ (by omega),List.getElem?_eq_getElem hjl] at a0 a1 a2
 simp only [List.getD_eq_getElem?_getD,List.getElem?_eq_getElem hjl,Option.getD_some]
 exact ⟨a0,a1,a2⟩
theorem Sl.vlLen {w:World} {B n:Nat} {v:Value} {l:List Vl} (h:Sl w B 3 v n (vlc l)):l.length=n:=by
 have hl:=h.len
 rw [vlc_length] at hl
 omega
def firstI (f:Nat→Bool):Nat→Int
 | 0 => -1
 | k + 1 => if 0≤firstI f k then firstI f k else if f k=true then (k:Int) else -1
theorem firstI_none (f:Nat→Bool):∀ k,(∀ i,i < k→f i=false)→firstI f k=-1
 | 0,_ => rfl
 | k + 1,h => by
  rw [firstI,firstI_none f k fun i hi => h i (by omega),if_neg (by omega),h k (by omega)]
  rfl
theorem firstI_at (f:Nat→Bool) (k:Nat) (h:∀ i,i < k→f i=false) (hk:f k=true):∀ n,k < n→firstI f n=(k:Int)
 | 0,h0 => by omega
 | n + 1,h0 => by
  rw [firstI]
  rcases Nat.lt_or_ge k n with h1 | h1
  ·rw [firstI_at f k h hk n h1,if_pos (by omega)]
  ·obtain rfl:k=n:=by omega
   rw [firstI_none f k h,if_neg (by omega),if_pos hk]
theorem firstI_bd (f:Nat→Bool):∀ k,-1≤firstI f k∧firstI f k < k
 | 0 => by simp [firstI]
 | k + 1 => by
  have:=firstI_bd f k
  rw [firstI]
  split
  ·omega
  ·split <;> omega
def vidAt (l:List Vl) (vid:Int) (i:Nat):Bool:=(l.getD i vl0).vid == vid
def findN (l:List Vl) (vid:Int) (n:Nat):Int:=firstI (vidAt l vid) n
end
section

end
section
structure Fr where
 dst:Nat
 src:Nat
 tagged:Bool
 tci:Nat
 typ:Nat
 load:List Nat
def Fr.zero:Fr:=⟨0,0,false,0,0,[]⟩
end
section
open Go.RowKit
set_option maxHeartbeats 400000 in
theorem mac_Right (m:Nat) (hm:m < 18446744073709551616) (w:World) :
  Calls Try.prog 97 #[.int .u64 (m:Int)] w fun e w' => e=.returned (.bool (decide (m < 281474976710656)))∧w=w':=by
 go_enter Try.func97,Try.ntmps97
 go_wp2
 go_ret
 exact ⟨ret_bool (by rw [decide_eq_decide]; omega),rfl⟩
set_option maxHeartbeats 400000 in
theorem mac_Kind (m:Nat) (hm:m < 18446744073709551616) (w:World) :
  Calls Try.prog 98 #[.int .u64 (m:Int)] w fun e w' => e=.returned (.int .i64 (kindN m:Nat))∧w=w':=by
 have h1:bits .and .u64 (m:Int) 281474976710655=((m % 281474976710656:Nat):Int):=by
  have:=u64_and_nat m 281474976710655 hm (by omega)
  rw [and_low] at this
  exact this
 have hk:kindN m=if m % 281474976710656=281474976710655 then 2 else if m % 281474976710656 / 16 * 16=1652522221568 then 3 else m % 281474976710656 / 1099511627776 % 2:=by
  unfold kindN
  split
  ·rfl
  ·split
   ·rfl
   ·omega
 obtain ⟨L,hL⟩:∃ L,L=m % 281474976710656:=⟨_,rfl⟩
 have hLb:L < 281474976710656:=by omega
 rw [← hL] at h1 hk
 have HK:=Lib.hid hk
 clear hk hL
 have h2:bits .andNot .u64 (L:Int) 15=((L / 16 * 16:Nat):Int):=by
  have:=u64_andNot_nat L 15 (by omega) (by omega)
  rw [andNot_15 L (by omega)] at this
  exact this
 have h3:bits .and .u64 (L:Int) 1099511627776=((L / 1099511627776 % 2 * 1099511627776:Nat):Int):=by
  have:=u64_and_nat L 1099511627776 (by omega) (by omega)
  rw [and_40] at this
  exact this
 go_enter Try.func98,Try.ntmps98
 go_wp2
 all_goals go_ret
 all_goals refine ⟨ret_i64 ?_,rfl⟩
 all_goals rw [HK.out]
 all_goals simp only [beq_iff_eq,beq_eq_false_iff_ne,bne_iff_ne,bne_eq_false_iff_eq,ne_eq] at *
 ·rw [if_pos (by omega)]; rfl
 ·rw [if_neg (by omega),if_pos (by omega)]; rfl
 ·rw [if_neg (by omega),if_neg (by omega)]; omega
 ·rw [if_neg (by omega),if_neg (by omega)]; omega
end
section
def rightK (v:Int) (m:Nat):Bool:=decide (1≤v∧v≤4094∧0 < m∧m < 281474976710656∧m / 1099511627776 % 2=0)
theorem rightK_iff {v:Int} {m:Nat}:rightK v m=true ↔ 1≤v∧v≤4094∧0 < m∧m < 281474976710656∧m / 1099511627776 % 2=0:=by simp [rightK]
theorem rightK_no {v:Int} {m:Nat} (h:¬ (1≤v∧v≤4094∧0 < m∧m < 281474976710656∧m / 1099511627776 % 2=0)):rightK v m=false:=by
 unfold rightK; exact decide_eq_false h
theorem kind_zero {m:Nat} (h:m < 281474976710656):kindN m=0 ↔ m / 1099511627776 % 2=0:=by
 unfold kindN
 rw [Nat.mod_eq_of_lt h]
 split
 ·omega
 ·split <;> omega
def wordN (v:Int) (m:Nat):Nat:=if rightK v m=true then 1152921504606846976 + v.toNat * 281474976710656 + m else 0
theorem wordN_yes {v:Int} {m:Nat} (h:rightK v m=true):wordN v m=1152921504606846976 + v.toNat * 281474976710656 + m:=if_pos h
theorem wordN_no {v:Int} {m:Nat} (h:rightK v m=false):wordN v m=0:=by unfold wordN; rw [h]; rfl
theorem wordN_lt (v:Int) (m:Nat):wordN v m < 18446744073709551616:=by
 cases h:rightK v m
 ·rw [wordN_no h]; omega
 ·rw [wordN_yes h]
  have:=rightK_iff.1 h
  omega
theorem or_48 (a b:Nat) (hb:b < 281474976710656):(a * 281474976710656) ||| b=a * 281474976710656 + b:=by
 have:=Nat.shiftLeft_add_eq_or_of_lt (i:=48) (b:=b) (by simpa using hb) a
 rw [Nat.shiftLeft_eq] at this
 simpa using this.symm
theorem or_word (v m:Nat) (hv:v < 4096) (hm:m < 281474976710656):(1152921504606846976 ||| v * 281474976710656) ||| m=1152921504606846976 + v * 281474976710656 + m:=by
 have e1:=or_48 4096 0 (by omega)
 have h1:(1152921504606846976 ||| v * 281474976710656)=(4096 + v) * 281474976710656:=by
  have:=Nat.shiftLeft_add_eq_or_of_lt (i:=60) (b:=v * 281474976710656) (by omega) 1
  rw [Nat.shiftLeft_eq] at this
  have e:(1 * 2 ^ 60:Nat)=1152921504606846976:=by decide
  rw [e] at this
  omega
 rw [h1,or_48 _ _ hm]
 omega
structure En where
 vid:Int
 mac:Nat
 port:Int
 st:Bool
 stamp:Nat
deriving DecidableEq
def en0:En:=⟨0,0,0,false,0⟩
def En.ok (e:En):Prop:=(-9223372036854775808≤e.vid∧e.vid≤9223372036854775807)∧e.mac < 18446744073709551616∧(-9223372036854775808≤e.port∧e.port≤9223372036854775807)∧e.stamp < 4294967296
def rightE (e:En):Bool:=rightK e.vid e.mac && decide (0≤e.port∧e.port < 64∧¬ (e.st=true∧e.stamp ≠ 0))
end
end Go.Proofs.Ytfekhdgjgjodlaa
