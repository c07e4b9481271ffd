/-
  Words and contracts that a statement's proof rests on (PlainKy). No statement is proved here.
-/
import Derived.Test.YthloabdfkakehaaPlainFrame
set_option linter.unusedVariables false
set_option linter.unusedSimpArgs false
namespace Go.Proofs.Ythloabdfkakehaa
def rightK (v:Int) (m:Nat):Bool:=decide (1≤v∧v≤4094∧0 < m∧m < 281474976710656∧m / 1099511627776 % 2=0)
theorem rightK_iff {v:Int} {m:Nat}:rightK v m=true ↔ 1≤v∧v≤4094∧0 < m∧m < 281474976710656∧m / 1099511627776 % 2=0:=by simp [rightK]
theorem rightK_no {v:Int} {m:Nat} (h:¬ (1≤v∧v≤4094∧0 < m∧m < 281474976710656∧m / 1099511627776 % 2=0)):rightK v m=false:=by
 unfold rightK; exact decide_eq_false h
theorem kind_zero {m:Nat} (h:m < 281474976710656):kindN m=0 ↔ m / 1099511627776 % 2=0:=by
 unfold kindN
 rw [Nat.mod_eq_of_lt h]
 split
 ·omega
 ·split <;> omega
def wordN (v:Int) (m:Nat):Nat:=if rightK v m=true then 1152921504606846976 + v.toNat * 281474976710656 + m else 0
theorem wordN_yes {v:Int} {m:Nat} (h:rightK v m=true):wordN v m=1152921504606846976 + v.toNat * 281474976710656 + m:=if_pos h
theorem wordN_no {v:Int} {m:Nat} (h:rightK v m=false):wordN v m=0:=by unfold wordN; rw [h]; rfl
theorem wordN_lt (v:Int) (m:Nat):wordN v m < 18446744073709551616:=by
 cases h:rightK v m
 ·rw [wordN_no h]; omega
 ·rw [wordN_yes h]
  have:=rightK_iff.1 h
  omega
def vidW (w:Nat):Nat:=w / 281474976710656 % 4096
def macW (w:Nat):Nat:=w % 281474976710656
def okW (w:Nat):Bool:=rightK (vidW w:Int) (macW w) && decide (w / 1152921504606846976=1)
theorem okW_iff {w:Nat}:okW w=true ↔ rightK (vidW w:Int) (macW w)=true∧w / 1152921504606846976=1:=by simp [okW]
theorem word_back {w:Nat} (h:okW w=true):wordN (vidW w:Int) (macW w)=w:=by
 obtain ⟨h1,h2⟩:=okW_iff.1 h
 rw [wordN_yes h1,Int.toNat_natCast]
 unfold vidW macW
 omega
theorem of_word {v:Int} {m:Nat} (h:rightK v m=true):okW (wordN v m)=true∧(vidW (wordN v m):Int)=v∧macW (wordN v m)=m:=by
 have hr:=rightK_iff.1 h
 have e1:(vidW (wordN v m):Int)=v:=by rw [wordN_yes h]; unfold vidW; omega
 have e2:macW (wordN v m)=m:=by rw [wordN_yes h]; unfold macW; omega
 refine ⟨okW_iff.2 ⟨by rw [e1,e2]; exact h,by rw [wordN_yes h]; omega⟩,e1,e2⟩
theorem okW_word (w:Nat) (hw:w < 18446744073709551616):okW w=(rightK (vidW w:Int) (macW w) && decide (wordN (vidW w:Int) (macW w)=w)):=by
 cases hr:rightK (vidW w:Int) (macW w)
 ·unfold okW; rw [hr]; rfl
 ·unfold okW
  rw [hr,Bool.true_and,Bool.true_and,decide_eq_decide]
  constructor
  ·intro h
   exact word_back (okW_iff.2 ⟨hr,h⟩)
  ·intro h
   rw [wordN_yes hr,Int.toNat_natCast] at h
   have:=rightK_iff.1 hr
   omega
theorem or_48 (a b:Nat) (hb:b < 281474976710656):(a * 281474976710656) ||| b=a * 281474976710656 + b:=by
 have:=Nat.shiftLeft_add_eq_or_of_lt (i:=48) (b:=b) (by simpa using hb) a
 rw [Nat.shiftLeft_eq] at this
 simpa using this.symm
theorem or_word (v m:Nat) (hv:v < 4096) (hm:m < 281474976710656):(1152921504606846976 ||| v * 281474976710656) ||| m=1152921504606846976 + v * 281474976710656 + m:=by
 have e1:=or_48 4096 0 (by omega)
 have h1:(1152921504606846976 ||| v * 281474976710656)=(4096 + v) * 281474976710656:=by
  have:=Nat.shiftLeft_add_eq_or_of_lt (i:=60) (b:=v * 281474976710656) (by omega) 1
  rw [Nat.shiftLeft_eq] at this
  have e:(1 * 2 ^ 60:Nat)=1152921504606846976:=by decide
  rw [e] at this
  omega
 rw [h1,or_48 _ _ hm]
 omega
theorem and_4095 (a:Nat):a &&& 4095=a % 4096:=by
 have:=Nat.and_two_pow_sub_one_eq_mod a 12
 simpa using this
theorem and_255 (a:Nat):a &&& 255=a % 256:=by
 have:=Nat.and_two_pow_sub_one_eq_mod a 8
 simpa using this
theorem and_256 (a:Nat):a &&& 256=(a / 256 % 2) * 256:=by
 have:=and_bit a 8
 simpa using this
theorem or_32 (a b:Nat) (hb:b < 4294967296):(a * 4294967296) ||| b=a * 4294967296 + b:=by
 have:=Nat.shiftLeft_add_eq_or_of_lt (i:=32) (b:=b) (by simpa using hb) a
 rw [Nat.shiftLeft_eq] at this
 simpa using this.symm
theorem or_256 (s p:Nat) (hp:p < 256):(s * 4294967296 + p) ||| 256=s * 4294967296 + 256 + p:=by
 rw [← or_32 s p (by omega),Nat.or_assoc]
 have:p ||| 256=256 + p:=by
  have:=Nat.shiftLeft_add_eq_or_of_lt (i:=8) (b:=p) (by simpa using hp) 1
  rw [Nat.shiftLeft_eq] at this
  rw [Nat.or_comm]
  simpa using this.symm
 rw [this,or_32 s _ (by omega)]
 omega
structure En where
 vid:Int
 mac:Nat
 port:Int
 st:Bool
 stamp:Nat
deriving DecidableEq
def en0:En:=⟨0,0,0,false,0⟩
def En.ok (e:En):Prop:=(-9223372036854775808≤e.vid∧e.vid≤9223372036854775807)∧e.mac < 18446744073709551616∧(-9223372036854775808≤e.port∧e.port≤9223372036854775807)∧e.stamp < 4294967296
def rightE (e:En):Bool:=rightK e.vid e.mac && decide (0≤e.port∧e.port < 64∧¬ (e.st=true∧e.stamp ≠ 0))
theorem rightE_iff {e:En}:rightE e=true ↔ rightK e.vid e.mac=true∧0≤e.port∧e.port < 64∧¬ (e.st=true∧e.stamp ≠ 0):=by
 unfold rightE
 rw [Bool.and_eq_true,decide_eq_true_eq]
def lowN (e:En):Nat:=e.stamp * 4294967296 + (if e.st=true then 256 else 0) + e.port.toNat
def wordA (e:En):Nat:=if rightE e=true then wordN e.vid e.mac else 0
def wordB (e:En):Nat:=if rightE e=true then lowN e else 0
def entW (a b:Nat):En:=⟨vidW a,macW a,(b % 256:Nat),decide (b / 256 % 2=1),b / 4294967296⟩
def okE (a b:Nat):Bool:=okW a && rightE (entW a b) && decide (b / 512 % 8388608=0)
theorem okE_iff {a b:Nat}:okE a b=true ↔ okW a=true∧rightE (entW a b)=true∧b / 512 % 8388608=0:=by simp [okE,and_assoc]
theorem lowN_lt {e:En} (h:rightE e=true) (hs:e.stamp < 4294967296):lowN e < 18446744073709551616:=by
 have:=rightE_iff.1 h
 unfold lowN
 split <;> omega
theorem low_back {a b:Nat} (h:b / 512 % 8388608=0):lowN (entW a b)=b:=by
 unfold lowN entW
 simp only [Int.toNat_natCast,decide_eq_true_eq]
 split <;> omega
theorem of_words {e:En} (h:rightE e=true) (hs:e.stamp < 4294967296):okE (wordA e) (wordB e)=true∧entW (wordA e) (wordB e)=e:=by
 obtain ⟨h1,h2,h3,h4⟩:=rightE_iff.1 h
 obtain ⟨a1,a2,a3⟩:=of_word h1
 obtain ⟨p,hp⟩:=Int.eq_ofNat_of_zero_le h2
 have e1:entW (wordA e) (wordB e)=e:=by
  unfold entW wordA wordB
  rw [if_pos h,if_pos h,a2,a3]
  obtain ⟨v,m,q,st,s⟩:=e
  simp only at hp hs
  subst hp
  unfold lowN
  simp only [Int.toNat_natCast,En.mk.injEq,true_and]
  simp only at h3
  cases st
  ·refine ⟨by simp; omega,by simp; omega,by simp; omega⟩
  ·refine ⟨by simp; omega,by simp; omega,by simp; omega⟩
 refine ⟨okE_iff.2 ⟨?_,by rw [e1]; exact h,?_⟩,e1⟩
 ·unfold wordA; rw [if_pos h]; exact a1
 ·unfold wordB lowN; rw [if_pos h]
  split <;> omega
theorem okE_back (a b:Nat) (hb:b < 18446744073709551616) (ha:okW a=true):okE a b=decide (wordB (entW a b)=b):=by
 have hw:okE a b=(rightE (entW a b) && decide (b / 512 % 8388608=0)):=by unfold okE; rw [ha]; rfl
 rw [hw]
 unfold wordB
 cases hr:rightE (entW a b)
 ·simp only [Bool.false_and]
  symm
  apply decide_eq_false
  rw [if_neg (by simp)]
  intro h0
  subst h0
  have:rightE (entW a 0)=true:=rightE_iff.2 ⟨(okW_iff.1 ha).1,by simp [entW],by simp [entW],by simp [entW]⟩
  rw [hr] at this
  exact absurd this (by simp)
 ·rw [Bool.true_and,decide_eq_decide,if_pos rfl]
  constructor
  ·exact fun h => low_back h
  ·intro h
   unfold lowN entW at h
   simp only [Int.toNat_natCast,decide_eq_true_eq] at h
   split at h <;> omega
end Go.Proofs.Ythloabdfkakehaa
