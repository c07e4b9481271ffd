/-
  Words and contracts that a statement's proof rests on (Plain, PlainKy, PlainFrame, Mac). No statement is proved here.
-/
import Derived.Laws.BitsAllLaws
import Derived.Below
import Derived.Test.YthloabdfkakehaaGreatProg
import Derived.Handy
import Derived.WalkLawsBesides
import Derived.Lib.Hide
import Derived.Deep.QuietTactic
import Derived.BigQuiet
import Derived.Test.YthloabdfkakehaaGreatBase
import Derived.Test.YthloabdfkakehaaGreatKeep
set_option linter.unusedVariables false
set_option linter.unusedSimpArgs false
namespace Go.Proofs.YthloabdfkakehaaGreat
section
theorem and_low (m:Nat):m &&& 281474976710655=m % 281474976710656:=by
 have:=Nat.and_two_pow_sub_one_eq_mod m 48
 simpa using this
theorem andNot_15 (a:Nat) (ha:a < 18446744073709551616):a &&& (18446744073709551615 - 15)=a / 16 * 16:=by
 have e1:(18446744073709551615 - 15:Nat)=(2 ^ 60 - 1) <<< 4:=by decide
 have e2:a / 16 * 16=(a >>> 4) <<< 4:=by rw [Nat.shiftLeft_eq,Nat.shiftRight_eq_div_pow]
 rw [e1,e2]
 apply Nat.eq_of_testBit_eq
 intro i
 simp only [Nat.testBit_and,Nat.testBit_shiftLeft,Nat.testBit_shiftRight,Nat.testBit_two_pow_sub_one]
 by_cases h4:i ≥ 4
 ·by_cases h64:i < 64
  ·have:i - 4 < 60:=by omega
   have e:4 + (i - 4)=i:=by omega
   simp [h4,this,e]
  ·have:a.testBit i=false:=Nat.testBit_lt_two_pow (Nat.lt_of_lt_of_le ha (by
    have:2 ^ 64≤2 ^ i:=Nat.pow_le_pow_right (by omega) (by omega)
    simpa using this))
   have e:4 + (i - 4)=i:=by omega
   simp [h4,this,e]
 ·simp [h4]
theorem and_bit (a k:Nat):a &&& 2 ^ k=(a / 2 ^ k % 2) * 2 ^ k:=by
 have hc:a.testBit k=decide (a / 2 ^ k % 2=1):=Nat.testBit_eq_decide_div_mod_eq ..
 have h2:a / 2 ^ k % 2=0 ∨ a / 2 ^ k % 2=1:=by omega
 apply Nat.eq_of_testBit_eq
 intro i
 rw [Nat.testBit_and,Nat.testBit_two_pow]
 by_cases hi:k=i
 ·subst hi
  rcases h2 with h | h <;> simp [hc,h]
 ·rcases h2 with h | h <;> simp [h,hi]
theorem and_40 (a:Nat):a &&& 1099511627776=(a / 1099511627776 % 2) * 1099511627776:=by
 have:=and_bit a 40
 simpa using this
def mb (m:Nat):List Nat:=[m / 1099511627776 % 256,m / 4294967296 % 256,m / 16777216 % 256,m / 65536 % 256,m / 256 % 256,m % 256]
def lastk (m:Nat):Nat→List Nat
 | 0 => []
 | k + 1 => (m / 256 ^ k % 256) :: lastk m k
theorem lastk_six (m:Nat):lastk m 6=mb m:=by simp [lastk,mb]
def kindN (m:Nat):Nat :=
 if m % 281474976710656=281474976710655 then 2 else if m % 281474976710656 / 16 * 16=1652522221568 then 3 else m / 1099511627776 % 2
theorem reserved_iff (m:Nat):m % 281474976710656 / 16 * 16=1652522221568 ↔
  (m / 1099511627776 % 256=1∧m / 4294967296 % 256=128∧m / 16777216 % 256=194∧m / 65536 % 256=0∧m / 256 % 256=0∧m % 256 < 16):=by
 omega
def sl (s:ByteArray):List Nat:=s.data.toList.map (·.toNat)
end
section
def rightK (v:Int) (m:Nat):Bool:=decide (1≤v∧v≤4094∧0 < m∧m < 281474976710656∧m / 1099511627776 % 2=0)
theorem rightK_iff {v:Int} {m:Nat}:rightK v m=true ↔ 1≤v∧v≤4094∧0 < m∧m < 281474976710656∧m / 1099511627776 % 2=0:=by simp [rightK]
theorem rightK_no {v:Int} {m:Nat} (h:¬ (1≤v∧v≤4094∧0 < m∧m < 281474976710656∧m / 1099511627776 % 2=0)):rightK v m=false:=by
 unfold rightK; exact decide_eq_false h
theorem kind_zero {m:Nat} (h:m < 281474976710656):kindN m=0 ↔ m / 1099511627776 % 2=0:=by
 unfold kindN
 rw [Nat.mod_eq_of_lt h]
 split
 ·omega
 ·split <;> omega
def wordN (v:Int) (m:Nat):Nat:=if rightK v m=true then 1152921504606846976 + v.toNat * 281474976710656 + m else 0
theorem wordN_yes {v:Int} {m:Nat} (h:rightK v m=true):wordN v m=1152921504606846976 + v.toNat * 281474976710656 + m:=if_pos h
theorem wordN_no {v:Int} {m:Nat} (h:rightK v m=false):wordN v m=0:=by unfold wordN; rw [h]; rfl
theorem wordN_lt (v:Int) (m:Nat):wordN v m < 18446744073709551616:=by
 cases h:rightK v m
 ·rw [wordN_no h]; omega
 ·rw [wordN_yes h]
  have:=rightK_iff.1 h
  omega
def vidW (w:Nat):Nat:=w / 281474976710656 % 4096
def macW (w:Nat):Nat:=w % 281474976710656
def okW (w:Nat):Bool:=rightK (vidW w:Int) (macW w) && decide (w / 1152921504606846976=1)
theorem okW_iff {w:Nat}:okW w=true ↔ rightK (vidW w:Int) (macW w)=true∧w / 1152921504606846976=1:=by simp [okW]
theorem word_back {w:Nat} (h:okW w=true):wordN (vidW w:Int) (macW w)=w:=by
 obtain ⟨h1,h2⟩:=okW_iff.1 h
 rw [wordN_yes h1,Int.toNat_natCast]
 unfold vidW macW
 omega
theorem of_word {v:Int} {m:Nat} (h:rightK v m=true):okW (wordN v m)=true∧(vidW (wordN v m):Int)=v∧macW (wordN v m)=m:=by
 have hr:=rightK_iff.1 h
 have e1:(vidW (wordN v m):Int)=v:=by rw [wordN_yes h]; unfold vidW; omega
 have e2:macW (wordN v m)=m:=by rw [wordN_yes h]; unfold macW; omega
 refine ⟨okW_iff.2 ⟨by rw [e1,e2]; exact h,by rw [wordN_yes h]; omega⟩,e1,e2⟩
theorem okW_word (w:Nat) (hw:w < 18446744073709551616):okW w=(rightK (vidW w:Int) (macW w) && decide (wordN (vidW w:Int) (macW w)=w)):=by
 cases hr:rightK (vidW w:Int) (macW w)
 ·unfold okW; rw [hr]; rfl
 ·unfold okW
  rw [hr,Bool.true_and,Bool.true_and,decide_eq_decide]
  constructor
  ·intro h
   exact word_back (okW_iff.2 ⟨hr,h⟩)
  ·intro h
   rw [wordN_yes hr,Int.toNat_natCast] at h
   have:=rightK_iff.1 hr
   omega
theorem or_48 (a b:Nat) (hb:b < 281474976710656):(a * 281474976710656) ||| b=a * 281474976710656 + b:=by
 have:=Nat.shiftLeft_add_eq_or_of_lt (i:=48) (b:=b) (by simpa using hb) a
 rw [Nat.shiftLeft_eq] at this
 simpa using this.symm
theorem or_word (v m:Nat) (hv:v < 4096) (hm:m < 281474976710656):(1152921504606846976 ||| v * 281474976710656) ||| m=1152921504606846976 + v * 281474976710656 + m:=by
 have e1:=or_48 4096 0 (by omega)
 have h1:(1152921504606846976 ||| v * 281474976710656)=(4096 + v) * 281474976710656:=by
  have:=Nat.shiftLeft_add_eq_or_of_lt (i:=60) (b:=v * 281474976710656) (by omega) 1
  rw [Nat.shiftLeft_eq] at this
  have e:(1 * 2 ^ 60:Nat)=1152921504606846976:=by decide
  rw [e] at this
  omega
 rw [h1,or_48 _ _ hm]
 omega
theorem and_4095 (a:Nat):a &&& 4095=a % 4096:=by
 have:=Nat.and_two_pow_sub_one_eq_mod a 12
 simpa using this
theorem and_255 (a:Nat):a &&& 255=a % 256:=by
 have:=Nat.and_two_pow_sub_one_eq_mod a 8
 simpa using this
theorem and_256 (a:Nat):a &&& 256=(a / 256 % 2) * 256:=by
 have:=and_bit a 8
 simpa using this
theorem or_32 (a b:Nat) (hb:b < 4294967296):(a * 4294967296) ||| b=a * 4294967296 + b:=by
 have:=Nat.shiftLeft_add_eq_or_of_lt (i:=32) (b:=b) (by simpa using hb) a
 rw [Nat.shiftLeft_eq] at this
 simpa using this.symm
theorem or_256 (s p:Nat) (hp:p < 256):(s * 4294967296 + p) ||| 256=s * 4294967296 + 256 + p:=by
 rw [← or_32 s p (by omega),Nat.or_assoc]
 have:p ||| 256=256 + p:=by
  have:=Nat.shiftLeft_add_eq_or_of_lt (i:=8) (b:=p) (by simpa using hp) 1
  rw [Nat.shiftLeft_eq] at this
  rw [Nat.or_comm]
  simpa using this.symm
 rw [this,or_32 s _ (by omega)]
 omega
def fixV (v:Int):Int:=1 + v % 18446744073709551616 % 4094
def fixM (m:Nat):Nat :=
 if m % 281474976710656 / 1099511627776 % 2=1 then (if m % 281474976710656 - 1099511627776=0 then 1 else m % 281474976710656 - 1099511627776)
 else (if m % 281474976710656=0 then 1 else m % 281474976710656)
theorem fix_right (v:Int) (m:Nat):rightK (fixV v) (fixM m)=true:=by
 rw [rightK_iff]
 unfold fixV fixM
 have h:m % 281474976710656 < 281474976710656:=Nat.mod_lt _ (by omega)
 generalize m % 281474976710656=L at *
 refine ⟨by omega,by omega,?_⟩
 split <;> split <;> omega
theorem fixV_lt (v:Int):1≤fixV v∧fixV v≤4094:=by unfold fixV; omega
theorem fixM_lt (m:Nat):fixM m < 281474976710656:=(rightK_iff.1 (fix_right 0 m)).2.2.2.1
structure En where
 vid:Int
 mac:Nat
 port:Int
 st:Bool
 stamp:Nat
deriving DecidableEq
def en0:En:=⟨0,0,0,false,0⟩
def En.ok (e:En):Prop:=(-9223372036854775808≤e.vid∧e.vid≤9223372036854775807)∧e.mac < 18446744073709551616∧(-9223372036854775808≤e.port∧e.port≤9223372036854775807)∧e.stamp < 4294967296
def rightE (e:En):Bool:=rightK e.vid e.mac && decide (0≤e.port∧e.port < 64∧¬ (e.st=true∧e.stamp ≠ 0))
theorem rightE_iff {e:En}:rightE e=true ↔ rightK e.vid e.mac=true∧0≤e.port∧e.port < 64∧¬ (e.st=true∧e.stamp ≠ 0):=by
 unfold rightE
 rw [Bool.and_eq_true,decide_eq_true_eq]
def lowN (e:En):Nat:=e.stamp * 4294967296 + (if e.st=true then 256 else 0) + e.port.toNat
def wordA (e:En):Nat:=if rightE e=true then wordN e.vid e.mac else 0
def wordB (e:En):Nat:=if rightE e=true then lowN e else 0
def entW (a b:Nat):En:=⟨vidW a,macW a,(b % 256:Nat),decide (b / 256 % 2=1),b / 4294967296⟩
def okE (a b:Nat):Bool:=okW a && rightE (entW a b) && decide (b / 512 % 8388608=0)
theorem okE_iff {a b:Nat}:okE a b=true ↔ okW a=true∧rightE (entW a b)=true∧b / 512 % 8388608=0:=by simp [okE,and_assoc]
theorem lowN_lt {e:En} (h:rightE e=true) (hs:e.stamp < 4294967296):lowN e < 18446744073709551616:=by
 have:=rightE_iff.1 h
 unfold lowN
 split <;> omega
theorem low_back {a b:Nat} (h:b / 512 % 8388608=0):lowN (entW a b)=b:=by
 unfold lowN entW
 simp only [Int.toNat_natCast,decide_eq_true_eq]
 split <;> omega
theorem of_words {e:En} (h:rightE e=true) (hs:e.stamp < 4294967296):okE (wordA e) (wordB e)=true∧entW (wordA e) (wordB e)=e:=by
 obtain ⟨h1,h2,h3,h4⟩:=rightE_iff.1 h
 obtain ⟨a1,a2,a3⟩:=of_word h1
 obtain ⟨p,hp⟩:=Int.eq_ofNat_of_zero_le h2
 have e1:entW (wordA e) (wordB e)=e:=by
  unfold entW wordA wordB
  rw [if_pos h,if_pos h,a2,a3]
  obtain ⟨v,m,q,st,s⟩:=e
  simp only at hp hs
  subst hp
  unfold lowN
  simp only [Int.toNat_natCast,En.mk.injEq,true_and]
  simp only at h3
  cases st
  ·refine ⟨by simp; omega,by simp; omega,by simp; omega⟩
  ·refine ⟨by simp; omega,by simp; omega,by simp; omega⟩
 refine ⟨okE_iff.2 ⟨?_,by rw [e1]; exact h,?_⟩,e1⟩
 ·unfold wordA; rw [if_pos h]; exact a1
 ·unfold wordB lowN; rw [if_pos h]
  split <;> omega
theorem okE_back (a b:Nat) (hb:b < 18446744073709551616) (ha:okW a=true):okE a b=decide (wordB (entW a b)=b):=by
 have hw:okE a b=(rightE (entW a b) && decide (b / 512 % 8388608=0)):=by unfold okE; rw [ha]; rfl
 rw [hw]
 unfold wordB
 cases hr:rightE (entW a b)
 ·simp only [Bool.false_and]
  symm
  apply decide_eq_false
  rw [if_neg (by simp)]
  intro h0
  subst h0
  have:rightE (entW a 0)=true:=rightE_iff.2 ⟨(okW_iff.1 ha).1,by simp [entW],by simp [entW],by simp [entW]⟩
  rw [hr] at this
  exact absurd this (by simp)
 ·rw [Bool.true_and,decide_eq_decide,if_pos rfl]
  constructor
  ·exact fun h => low_back h
  ·intro h
   unfold lowN entW at h
   simp only [Int.toNat_natCast,decide_eq_true_eq] at h
   split at h <;> omega
end
section
structure Fr where
 dst:Nat
 src:Nat
 tagged:Bool
 tci:Nat
 typ:Nat
 load:List Nat
def Fr.zero:Fr:=⟨0,0,false,0,0,[]⟩
end
section
open Go.RowKit
set_option maxHeartbeats 400000 in
theorem mac_Right (m:Nat) (hm:m < 18446744073709551616) (w:World) :
  Calls Tryz.prog 128 #[.int .u64 (m:Int)] w fun e w' => e=.returned (.bool (decide (m < 281474976710656)))∧w=w':=by
 go_enter Tryz.func128,Tryz.ntmps128
 go_wp2
 go_ret
 exact ⟨ret_bool (by rw [decide_eq_decide]; omega),rfl⟩
theorem ref_Low (m:Nat) (w:World) :
  Calls Tryz.prog 56 #[.int .u64 (m:Int)] w fun e w' => e=.returned (.int .u64 (m % 281474976710656:Nat))∧w=w':=by
 go_enter Tryz.func56,Tryz.ntmps56
 go_wp2
 go_ret
 exact ⟨ret_u64 (by omega),rfl⟩
set_option maxHeartbeats 400000 in
theorem mac_Kind (m:Nat) (hm:m < 18446744073709551616) (w:World) :
  Calls Tryz.prog 129 #[.int .u64 (m:Int)] w fun e w' => e=.returned (.int .i64 (kindN m:Nat))∧w=w':=by
 have h1:bits .and .u64 (m:Int) 281474976710655=((m % 281474976710656:Nat):Int):=by
  have:=u64_and_nat m 281474976710655 hm (by omega)
  rw [and_low] at this
  exact this
 have hk:kindN m=if m % 281474976710656=281474976710655 then 2 else if m % 281474976710656 / 16 * 16=1652522221568 then 3 else m % 281474976710656 / 1099511627776 % 2:=by
  unfold kindN
  split
  ·rfl
  ·split
   ·rfl
   ·omega
 obtain ⟨L,hL⟩:∃ L,L=m % 281474976710656:=⟨_,rfl⟩
 have hLb:L < 281474976710656:=by omega
 rw [← hL] at h1 hk
 have HK:=Lib.hid hk
 clear hk hL
 have h2:bits .andNot .u64 (L:Int) 15=((L / 16 * 16:Nat):Int):=by
  have:=u64_andNot_nat L 15 (by omega) (by omega)
  rw [andNot_15 L (by omega)] at this
  exact this
 have h3:bits .and .u64 (L:Int) 1099511627776=((L / 1099511627776 % 2 * 1099511627776:Nat):Int):=by
  have:=u64_and_nat L 1099511627776 (by omega) (by omega)
  rw [and_40] at this
  exact this
 go_enter Tryz.func129,Tryz.ntmps129
 go_wp2
 all_goals go_ret
 all_goals refine ⟨ret_i64 ?_,rfl⟩
 all_goals rw [HK.out]
 all_goals simp only [beq_iff_eq,beq_eq_false_iff_ne,bne_iff_ne,bne_eq_false_iff_eq,ne_eq] at *
 ·rw [if_pos (by omega)]; rfl
 ·rw [if_neg (by omega),if_pos (by omega)]; rfl
 ·rw [if_neg (by omega),if_neg (by omega)]; omega
 ·rw [if_neg (by omega),if_neg (by omega)]; omega
def Made (e:TypeId) (size n:Nat) (xs:List Value) (w:World) (en:Ending) (w':World):Prop :=
 ∃ v,en=.returned v∧w'.ownsRow w.heap.size e size v n xs∧Below w.heap.size w w'
theorem stBytes:ST Tryz.prog 115 5 (.int .u8 0) 1 1:=ST.mk Tryz.underlying115 (by kernel_rfl) rfl (by omega) (by omega)
set_option maxHeartbeats 400000 in
theorem ref_Bytes (m:Nat) (hm:m < 18446744073709551616) (w:World) :
  Calls Tryz.prog 57 #[.int .u64 (m:Int)] w (Made 5 1 6 (bv (mb m)) w):=by
 go_enter Tryz.func57,Tryz.ntmps57
 go_wp2
 go_loopw [0,3,4] (fun q v i wr => ∃ k:Nat,k≤6∧i=.int .i64 k∧q=.int .u64 (m / 256 ^ k:Nat)∧wr.ownsRow w.heap.size 5 1 v k (bv (lastk m k))∧Below w.heap.size w wr) (fun _ _ i _ => 6 - (intOf i).toNat)
 case atStart => exact ⟨0,by omega,rfl,by simp,World.ownsRow_nil _ _ _ _,Below.refl _ _⟩
 case round =>
  obtain ⟨k,hk,rfl,rfl,hown,hbel⟩:=hrel
  have hsz:=hbel.size
  by_cases hlt:k < 6
  ·obtain ⟨q,hq⟩:∃ q,q=m / 256 ^ k:=⟨_,rfl⟩
   have hqb:q < 18446744073709551616:=by
    have:=Nat.div_le_self m (256 ^ k)
    omega
   have HQ:Hid (bv (lastk m (k + 1))=[.int .u8 ((q:Int) % 256)] ++ bv (lastk m k)):=by
    rw [hq]
    simp [Hid,lastk,bv]
   have HQ2:Hid (m / 256 ^ (k + 1)=q / 256):=by
    show _=_
    rw [Nat.pow_succ,← Nat.div_div_eq_div_mul,hq]
   rw [← hq]
   clear hq
   go_wp2_with (first
    | (at_builtin; refine wpList_app _ rfl stBytes (.tmp 12) (.tmp 13) rfl w.heap.size _ 1 [.int .u8 ((q:Int) % 256)] rfl (World.ownsRow_lit wr #[.int .u8 ((q:Int) % 256)] 1 hsz (by decide) rfl) wr.heap.size _ k (bv (lastk m k)) rfl ((Sl.of_own hown).alloc (Nat.le_refl _) _) (bv_one _) (by omega) (by simp; omega) ?_; intro v1 w1 hown1 hg1 hat1 hbel1))
   go_roundw
   case rel =>
    refine ⟨k + 1,by omega,by go_num,by rw [HQ2.out]; go_num,?_,?_⟩
    ·rw [HQ.out,Nat.add_comm]; exact hown1
    ·exact (hbel.alloc hsz _).trans hbel1
   case measure => simp [intOf]; omega
  ·have:k=6:=by omega
   subst this
   go_wp2
   go_ret
   exact ⟨_,rfl,by rw [← lastk_six]; exact hown,hbel⟩
theorem six {w:World} {B:Nat} {v:Value} {m:Nat} {e:TypeId} (h:w.ownsRow B e 1 v 6 (bv (mb m))):∃ g cap,v=.slice (some ⟨g,0,none⟩) 6 cap∧B≤g∧g < w.heap.size∧6≤cap ∧
  w.cell? ⟨g,0,none⟩=some (.int .u8 (m / 1099511627776 % 256:Nat))∧w.cell? ⟨g,1,none⟩=some (.int .u8 (m / 4294967296 % 256:Nat))∧w.cell? ⟨g,2,none⟩=some (.int .u8 (m / 16777216 % 256:Nat)) ∧
  w.cell? ⟨g,3,none⟩=some (.int .u8 (m / 65536 % 256:Nat))∧w.cell? ⟨g,4,none⟩=some (.int .u8 (m / 256 % 256:Nat))∧w.cell? ⟨g,5,none⟩=some (.int .u8 (m % 256:Nat)):=by
 rcases h.2 with ⟨_,h0⟩ | ⟨g,cap,cur,rfl,hb,hg,hc,_⟩
 ·omega
 ·refine ⟨g,cap,rfl,hb,(Array.getElem?_eq_some_iff.1 hg).1,hc,?_,?_,?_,?_,?_,?_⟩ <;> (rw [h.cellAt _ (by omega)]; simp [bv,mb])
set_option maxHeartbeats 1000000 in
theorem ref_Kind (m:Nat) (hm:m < 18446744073709551616) (w:World) :
  Calls Tryz.prog 109 #[.int .u64 (m:Int)] w (Says (.int .i64 (kindN m:Nat)) w):=by
 have hk:=reserved_iff m
 have hk2:kindN m=if m % 281474976710656=281474976710655 then 2 else if (m / 1099511627776 % 256=1∧m / 4294967296 % 256=128∧m / 16777216 % 256=194∧m / 65536 % 256=0∧m / 256 % 256=0∧m % 256 < 16) then 3 else m / 1099511627776 % 256 % 2:=by
  unfold kindN
  simp only [hk]
  split
  ·rfl
  ·split
   ·rfl
   ·omega
 have HK:=Lib.hid hk2
 clear hk hk2
 go_enter Tryz.func109,Tryz.ntmps109
 go_wp2_with fail
 refine (ref_Bytes m hm _).mono ?_
 rintro e w1 ⟨v,rfl,hown,hb⟩
 obtain ⟨g,cap,rfl,_,_,hc,c0,c1,c2,c3,c4,c5⟩:=six hown
 have HB:=Lib.hid hb
 clear hown hb
 generalize m / 1099511627776 % 256=x0 at *
 generalize m / 4294967296 % 256=x1 at *
 generalize m / 16777216 % 256=x2 at *
 generalize m / 65536 % 256=x3 at *
 generalize m / 256 % 256=x4 at *
 generalize m % 256=x5 at *
 go_wp2_with (go_at_call 56; refine (ref_Low m _).mono ?_; rintro e w2 ⟨rfl,rfl⟩)
 all_goals go_ret
 all_goals refine ⟨ret_i64 ?_,HB.out⟩
 all_goals rw [HK.out]
 all_goals (try simp only [beq_iff_eq,beq_eq_false_iff_ne,ne_eq] at *)
 all_goals first | (rw [if_pos (by omega)]; rfl) | (rw [if_neg (by omega),if_pos (by omega)]; rfl) | (rw [if_neg (by omega),if_neg (by omega)]; omega)
end
end Go.Proofs.YthloabdfkakehaaGreat
