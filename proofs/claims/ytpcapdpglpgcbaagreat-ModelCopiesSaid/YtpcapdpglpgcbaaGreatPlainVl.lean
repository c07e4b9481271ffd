/-
  Words and contracts that a statement's proof rests on (Plain, PlainVlan, PlainVl, PlainVlanB, PlainVlanC, PlainMo, PlainFrame, PlainFx). No statement is proved here.
-/
import Derived.Laws.BitsAllLaws
import Derived.Below
import Derived.Test.YtpcapdpglpgcbaaGreatBase
set_option linter.unusedVariables false
set_option linter.unusedSimpArgs false
namespace Go.Proofs.YtpcapdpglpgcbaaGreat
section
theorem and_low (m:Nat):m &&& 281474976710655=m % 281474976710656:=by
 have:=Nat.and_two_pow_sub_one_eq_mod m 48
 simpa using this
theorem andNot_15 (a:Nat) (ha:a < 18446744073709551616):a &&& (18446744073709551615 - 15)=a / 16 * 16:=by
 have e1:(18446744073709551615 - 15:Nat)=(2 ^ 60 - 1) <<< 4:=by decide
 have e2:a / 16 * 16=(a >>> 4) <<< 4:=by rw [Nat.shiftLeft_eq,Nat.shiftRight_eq_div_pow]
 rw [e1,e2]
 apply Nat.eq_of_testBit_eq
 intro i
 simp only [Nat.testBit_and,Nat.testBit_shiftLeft,Nat.testBit_shiftRight,Nat.testBit_two_pow_sub_one]
 by_cases h4:i ≥ 4
 ·by_cases h64:i < 64
  ·have:i - 4 < 60:=by omega
   have e:4 + (i - 4)=i:=by omega
   simp [h4,this,e]
  ·have:a.testBit i=false:=Nat.testBit_lt_two_pow (Nat.lt_of_lt_of_le ha (by
    have:2 ^ 64≤2 ^ i:=Nat.pow_le_pow_right (by omega) (by omega)
    simpa using this))
   have e:4 + (i - 4)=i:=by omega
   simp [h4,this,e]
 ·simp [h4]
theorem and_bit (a k:Nat):a &&& 2 ^ k=(a / 2 ^ k % 2) * 2 ^ k:=by
 have hc:a.testBit k=decide (a / 2 ^ k % 2=1):=Nat.testBit_eq_decide_div_mod_eq ..
 have h2:a / 2 ^ k % 2=0 ∨ a / 2 ^ k % 2=1:=by omega
 apply Nat.eq_of_testBit_eq
 intro i
 rw [Nat.testBit_and,Nat.testBit_two_pow]
 by_cases hi:k=i
 ·subst hi
  rcases h2 with h | h <;> simp [hc,h]
 ·rcases h2 with h | h <;> simp [h,hi]
theorem and_40 (a:Nat):a &&& 1099511627776=(a / 1099511627776 % 2) * 1099511627776:=by
 have:=and_bit a 40
 simpa using this
def mb (m:Nat):List Nat:=[m / 1099511627776 % 256,m / 4294967296 % 256,m / 16777216 % 256,m / 65536 % 256,m / 256 % 256,m % 256]
def lastk (m:Nat):Nat→List Nat
 | 0 => []
 | k + 1 => (m / 256 ^ k % 256) :: lastk m k
theorem lastk_six (m:Nat):lastk m 6=mb m:=by simp [lastk,mb]
def kindN (m:Nat):Nat :=
 if m % 281474976710656=281474976710655 then 2 else if m % 281474976710656 / 16 * 16=1652522221568 then 3 else m / 1099511627776 % 2
theorem reserved_iff (m:Nat):m % 281474976710656 / 16 * 16=1652522221568 ↔
  (m / 1099511627776 % 256=1∧m / 4294967296 % 256=128∧m / 16777216 % 256=194∧m / 65536 % 256=0∧m / 256 % 256=0∧m % 256 < 16):=by
 omega
def sl (s:ByteArray):List Nat:=s.data.toList.map (·.toNat)
end
section
theorem bit_lt {p:Nat} (hp:p < 64):2 ^ p < 18446744073709551616:=Nat.lt_of_lt_of_eq (Nat.pow_lt_pow_right (by omega) hp) (by decide)
theorem and_one (s k:Nat):s &&& 2 ^ k=if s.testBit k=true then 2 ^ k else 0:=by
 apply Nat.eq_of_testBit_eq
 intro i
 rw [Nat.testBit_and,Nat.testBit_two_pow]
 split
 ·rename_i h
  rw [Nat.testBit_two_pow]
  by_cases hk:k=i
  ·subst hk; simp [h]
  ·simp [hk]
 ·rename_i h
  by_cases hk:k=i
  ·subst hk; simp [h]
  ·simp [hk]
theorem or_bit_same {s k:Nat} (h:s.testBit k=true):s ||| 2 ^ k=s:=by
 apply Nat.eq_of_testBit_eq
 intro i
 rw [Nat.testBit_or,Nat.testBit_two_pow]
 by_cases hk:k=i
 ·subst hk; simp [h]
 ·simp [hk]
theorem or_bit_add {s k:Nat} (hs:s < 18446744073709551616) (hk:k < 64) (h:s.testBit k=false):s ||| 2 ^ k=s + 2 ^ k:=by
 have h1:=bit_lt hk
 have hx:(BitVec.ofNat 65 s).toNat=s:=by rw [BitVec.toNat_ofNat]; exact Nat.mod_eq_of_lt (by omega)
 have hy:(BitVec.ofNat 65 (2 ^ k)).toNat=2 ^ k:=by rw [BitVec.toNat_ofNat]; exact Nat.mod_eq_of_lt (by omega)
 have h0:BitVec.ofNat 65 s &&& BitVec.ofNat 65 (2 ^ k)=0#65:=by
  apply BitVec.eq_of_toNat_eq
  rw [BitVec.toNat_and,hx,hy,and_one,h]
  rfl
 have:=congrArg BitVec.toNat (BitVec.add_eq_or_of_and_eq_zero _ _ h0)
 rw [BitVec.toNat_add,BitVec.toNat_or,hx,hy,Nat.mod_eq_of_lt (by omega)] at this
 exact this.symm
def hasB (s:Nat) (p:Int):Bool:=decide (0≤p∧p < 64) && s.testBit p.toNat
def withN (s:Nat) (p:Int):Nat:=if 0≤p∧p < 64 then s ||| 2 ^ p.toNat else s
theorem hasB_out (s:Nat) {p:Int} (hp:p < 0 ∨ 64≤p):hasB s p=false:=by
 unfold hasB
 rw [decide_eq_false (by omega)]; rfl
theorem hasB_in (s:Nat) {k:Nat} (hk:k < 64):hasB s (k:Int)=s.testBit k:=by
 unfold hasB
 rw [decide_eq_true (by omega),Int.toNat_natCast]; rfl
theorem has_and (s k:Nat):(((s &&& 2 ^ k:Nat):Int) != 0)=s.testBit k:=by
 rw [and_one]
 have:0 < 2 ^ k:=Nat.two_pow_pos k
 generalize 2 ^ k=y at *
 cases h:s.testBit k
 ·simp
 ·simp
  omega
theorem withN_out (s:Nat) {p:Int} (hp:p < 0 ∨ 64≤p):withN s p=s:=by unfold withN; rw [if_neg (by omega)]
theorem withN_in (s:Nat) {k:Nat} (hk:k < 64):withN s (k:Int)=s ||| 2 ^ k:=by unfold withN; rw [if_pos (by omega),Int.toNat_natCast]
theorem withN_lt {s:Nat} (hs:s < 18446744073709551616) (p:Int):withN s p < 18446744073709551616:=by
 unfold withN
 split
 ·exact Nat.or_lt_two_pow (n:=64) hs (bit_lt (by omega))
 ·exact hs
end
section
open Go.RowKit
structure Vl where
 vid:Int
 mem:Nat
 unt:Nat
def vl0:Vl:=⟨0,0,0⟩
def Vl.ok (x:Vl):Prop:=(-9223372036854775808≤x.vid∧x.vid≤9223372036854775807)∧x.mem < 18446744073709551616∧x.unt < 18446744073709551616
def Vl.cells (x:Vl):List Value:=[.int .i64 x.vid,.int .u64 (x.mem:Nat),.int .u64 (x.unt:Nat)]
def vlc:List Vl→List Value
 | [] => []
 | x :: l => x.cells ++ vlc l
theorem vlc_length:∀ l:List Vl,(vlc l).length=l.length * 3
 | [] => rfl
 | x :: l => by
  have:=vlc_length l
  simp [vlc,Vl.cells,this]
  omega
theorem vlc_append:∀ a b:List Vl,vlc (a ++ b)=vlc a ++ vlc b
 | [],b => rfl
 | x :: a,b => by simp [vlc,vlc_append a b]
theorem vlc_at:∀ (l:List Vl) (j f:Nat),f < 3→(vlc l)[j * 3 + f]?=(l[j]?).bind fun x => x.cells[f]?
 | [],j,f,_ => by simp [vlc]
 | x :: l,0,f,h => by
  rw [vlc,List.getElem?_append_left (by simp [Vl.cells]; omega)]
  simp
 | x :: l,j + 1,f,h => by
  have:=vlc_at l j f h
  rw [vlc,List.getElem?_append_right (by simp [Vl.cells]; omega)]
  have e:(j + 1) * 3 + f - x.cells.length=j * 3 + f:=by simp [Vl.cells]; omega
  rw [e,this]
  simp
theorem vlc_one (l:List Vl):∀ u ∈ vlc l,u.oneCell'=true:=by
 induction l with
 | nil => simp [vlc]
 | cons x l ih =>
  intro u hu
  rw [vlc,List.mem_append] at hu
  rcases hu with h | h
  ·simp [Vl.cells] at h
   rcases h with rfl | rfl | rfl <;> rfl
  ·exact ih u h
theorem vl_ok {l:List Vl} (h:∀ x ∈ l,x.ok) (k:Nat):(l.getD k vl0).ok:=by
 rw [List.getD_eq_getElem?_getD]
 rcases Nat.lt_or_ge k l.length with hk | hk
 ·rw [List.getElem?_eq_getElem hk]; exact h _ (List.getElem_mem hk)
 ·rw [List.getElem?_eq_none hk]
  simp [Vl.ok,vl0]
theorem Sl.vlAt {w:World} {B n:Nat} {v:Value} {l:List Vl} (h:Sl w B 3 v n (vlc l)) (hn:0 < n) :
  ∃ b off cap,v=.slice (some ⟨b,off,none⟩) n cap∧n≤cap∧cap≤maxLen∧b < B∧l.length=n ∧
   ∀ j,j < n→w.cell? ⟨b,off + j * 3,none⟩=some (.int .i64 (l.getD j vl0).vid)∧w.cell? ⟨b,off + j * 3 + 1,none⟩=some (.int .u64 ((l.getD j vl0).mem:Nat))∧w.cell? ⟨b,off + j * 3 + 2,none⟩=some (.int .u64 ((l.getD j vl0).unt:Nat)):=by
 have hl:=h.len
 rw [vlc_length] at hl
 obtain ⟨b,off,cap,rfl,h1,h2,h3,h4⟩:=h.at_ hn
 refine ⟨b,off,cap,rfl,h1,h2,h3,by omega,fun j hj => ?_⟩
 have hjl:j < l.length:=by omega
 have a0:=h4 (j * 3 + 0) (by omega)
 have a1:=h4 (j * 3 + 1) (by omega)
 have a2:=h4 (j * 3 + 2) (by omega)
 rw [vlc_at l j _ (by omega),List.getElem?_eq_getElem hjl] at a0 a1 a2
 simp only [List.getD_eq_getElem?_getD,List.getElem?_eq_getElem hjl,Option.getD_some]
 exact ⟨a0,a1,a2⟩
theorem Sl.vlLen {w:World} {B n:Nat} {v:Value} {l:List Vl} (h:Sl w B 3 v n (vlc l)):l.length=n:=by
 have hl:=h.len
 rw [vlc_length] at hl
 omega
def firstI (f:Nat→Bool):Nat→Int
 | 0 => -1
 | k + 1 => if 0≤firstI f k then firstI f k else if f k=true then (k:Int) else -1
theorem firstI_none (f:Nat→Bool):∀ k,(∀ i,i < k→f i=false)→firstI f k=-1
 | 0,_ => rfl
 | k + 1,h => by
  rw [firstI,firstI_none f k fun i hi => h i (by omega),if_neg (by omega),h k (by omega)]
  rfl
theorem firstI_at (f:Nat→Bool) (k:Nat) (h:∀ i,i < k→f i=false) (hk:f k=true):∀ n,k < n→firstI f n=(k:Int)
 | 0,h0 => by omega
 | n + 1,h0 => by
  rw [firstI]
  rcases Nat.lt_or_ge k n with h1 | h1
  ·rw [firstI_at f k h hk n h1,if_pos (by omega)]
  ·obtain rfl:k=n:=by omega
   rw [firstI_none f k h,if_neg (by omega),if_pos hk]
theorem firstI_bd (f:Nat→Bool):∀ k,-1≤firstI f k∧firstI f k < k
 | 0 => by simp [firstI]
 | k + 1 => by
  have:=firstI_bd f k
  rw [firstI]
  split
  ·omega
  ·split <;> omega
def vidAt (l:List Vl) (vid:Int) (i:Nat):Bool:=(l.getD i vl0).vid == vid
def findN (l:List Vl) (vid:Int) (n:Nat):Int:=firstI (vidAt l vid) n
end
section

end
section
def withinK (a b:Nat):Nat→Bool
 | 0 => true
 | k + 1 => withinK a b k && !(a.testBit k && !b.testBit k)
def withinB (a b:Nat):Bool:=withinK a b 64
theorem withinK_iff (a b:Nat):∀ k,withinK a b k=true ↔ ∀ i,i < k→a.testBit i=true→b.testBit i=true
 | 0 => by simp [withinK]
 | k + 1 => by
  rw [withinK,Bool.and_eq_true,withinK_iff a b k]
  constructor
  ·rintro ⟨h1,h2⟩ i hi ha
   rcases Nat.lt_or_ge i k with h | h
   ·exact h1 i h ha
   ·obtain rfl:i=k:=by omega
    rw [ha] at h2
    simpa using h2
  ·intro h
   refine ⟨fun i hi => h i (by omega),?_⟩
   cases hk:a.testBit k
   ·rfl
   ·rw [h k (by omega) hk]; rfl
theorem andNot_within {a b:Nat} (ha:a < 18446744073709551616) (hb:b < 18446744073709551616):(((a &&& (18446744073709551615 - b):Nat):Int) != 0)=!withinB a b:=by
 have e:18446744073709551615 - b=2 ^ 64 - (b + 1):=by omega
 have hz:(a &&& (18446744073709551615 - b)=0) ↔ withinB a b=true:=by
  unfold withinB
  rw [withinK_iff,e]
  constructor
  ·intro h i hi hai
   have h2:=congrArg (fun x => x.testBit i) h
   simp only [Nat.testBit_and,Nat.zero_testBit] at h2
   rw [Nat.testBit_two_pow_sub_succ (by omega),hai] at h2
   simpa [hi] using h2
  ·intro h
   apply Nat.eq_of_testBit_eq
   intro i
   rw [Nat.testBit_and,Nat.zero_testBit,Nat.testBit_two_pow_sub_succ (by omega)]
   by_cases hi:i < 64
   ·cases hai:a.testBit i
    ·rfl
    ·rw [h i hi hai]; simp
   ·have:a.testBit i=false:=Nat.testBit_lt_two_pow (Nat.lt_of_lt_of_le ha (show 2 ^ 64≤2 ^ i from Nat.pow_le_pow_right (by omega) (by omega)))
    simp [this]
 generalize a &&& (18446744073709551615 - b)=x at *
 cases h:withinB a b
 ·have:¬ x=0:=fun hx => by rw [hz.1 hx] at h; cases h
  simp; omega
 ·have:=hz.2 h
  subst this
  rfl
def allN (n:Int):Nat:=if 64≤n then 18446744073709551615 else 2 ^ n.toNat - 1
theorem allN_lt (n:Int):allN n < 18446744073709551616:=by
 unfold allN
 split
 ·omega
 ·rename_i h
  have:=bit_lt (show n.toNat < 64 by omega)
  omega
theorem with_ones (k:Nat) (hk:k < 64):withN (2 ^ k - 1) (k:Int)=2 ^ (k + 1) - 1:=by
 have h0:=Nat.two_pow_pos k
 have h1:=bit_lt hk
 rw [withN_in _ hk,or_bit_add (by omega) hk (by rw [Nat.testBit_two_pow_sub_one]; simp),Nat.pow_succ]
 omega
def vidB (v:Int):Bool:=decide (1≤v) && decide (v≤4094)
def ruleB (p a:Int):Bool:=vidB p && (decide (0≤a) && decide (a≤2))
def wrongAt (l:List Vl) (ports:Int) (i:Nat):Nat :=
 if vidB (l.getD i vl0).vid=false ∨ (0 < i∧(l.getD i vl0).vid≤(l.getD (i - 1) vl0).vid) then 6
 else if withinB (l.getD i vl0).mem (allN ports)=false then 5
 else if withinB (l.getD i vl0).unt (l.getD i vl0).mem=false then 1 else 0
def firstW (f:Nat→Nat):Nat→Nat
 | 0 => 0
 | k + 1 => if firstW f k=0 then f k else firstW f k
theorem firstW_none (f:Nat→Nat):∀ k,(∀ i,i < k→f i=0)→firstW f k=0
 | 0,_ => rfl
 | k + 1,h => by
  rw [firstW,firstW_none f k fun i hi => h i (by omega),if_pos rfl]
  exact h k (by omega)
theorem firstW_at (f:Nat→Nat) (k:Nat) (h:∀ i,i < k→f i=0) (hk:f k ≠ 0):∀ n,k < n→firstW f n=f k
 | 0,h0 => by omega
 | n + 1,h0 => by
  rw [firstW]
  rcases Nat.lt_or_ge k n with h1 | h1
  ·rw [firstW_at f k h hk n h1,if_neg hk]
  ·obtain rfl:k=n:=by omega
   rw [firstW_none f k h,if_pos rfl]
def checkN (l:List Vl) (ports:Int) (n:Nat):Nat:=if ports < 2 ∨ 64 < ports then 5 else if 16 < n then 8 else firstW (wrongAt l ports) n
theorem check5 {l:List Vl} {ports:Int} {n:Nat} (h:ports < 2 ∨ 64 < ports):checkN l ports n=5:=by unfold checkN; rw [if_pos h]
theorem check8 {l:List Vl} {ports:Int} {n:Nat} (h:¬ (ports < 2 ∨ 64 < ports)) (h2:16 < n):checkN l ports n=8:=by unfold checkN; rw [if_neg h,if_pos h2]
theorem check0 {l:List Vl} {ports:Int} {n:Nat} (h:¬ (ports < 2 ∨ 64 < ports)) (h2:¬ 16 < n) (h3:∀ i,i < n→wrongAt l ports i=0):checkN l ports n=0:=by unfold checkN; rw [if_neg h,if_neg h2]; exact firstW_none _ _ h3
theorem checkAt {l:List Vl} {ports:Int} {n k E:Nat} (h:¬ (ports < 2 ∨ 64 < ports)) (h2:¬ 16 < n) (h3:∀ i,i < k→wrongAt l ports i=0) (hk:k < n) (he:wrongAt l ports k=E) (hE:E ≠ 0):checkN l ports n=E:=by
 unfold checkN; rw [if_neg h,if_neg h2,firstW_at _ k h3 (by rw [he]; exact hE) n hk]; exact he
end
section
open Go.RowKit
structure Rl where
 pv:Int
 ac:Int
def rl0:Rl:=⟨0,0⟩
def Rl.cells (x:Rl):List Value:=[.int .i64 x.pv,.int .i64 x.ac]
def rlc:List Rl→List Value
 | [] => []
 | x :: l => x.cells ++ rlc l
theorem rlc_length:∀ l:List Rl,(rlc l).length=l.length * 2
 | [] => rfl
 | x :: l => by
  have:=rlc_length l
  simp [rlc,Rl.cells,this]
  omega
theorem rlc_append:∀ a b:List Rl,rlc (a ++ b)=rlc a ++ rlc b
 | [],b => rfl
 | x :: a,b => by simp [rlc,rlc_append a b]
theorem rlc_at:∀ (l:List Rl) (j f:Nat),f < 2→(rlc l)[j * 2 + f]?=(l[j]?).bind fun x => x.cells[f]?
 | [],j,f,_ => by simp [rlc]
 | x :: l,0,f,h => by
  rw [rlc,List.getElem?_append_left (by simp [Rl.cells]; omega)]
  simp
 | x :: l,j + 1,f,h => by
  have:=rlc_at l j f h
  rw [rlc,List.getElem?_append_right (by simp [Rl.cells]; omega)]
  have e:(j + 1) * 2 + f - x.cells.length=j * 2 + f:=by simp [Rl.cells]; omega
  rw [e,this]
  simp
theorem Sl.rlAt {w:World} {B n:Nat} {v:Value} {l:List Rl} (h:Sl w B 2 v n (rlc l)) (hn:0 < n) :
  ∃ b off cap,v=.slice (some ⟨b,off,none⟩) n cap∧n≤cap∧cap≤maxLen∧b < B∧l.length=n ∧
   ∀ j,j < n→w.cell? ⟨b,off + j * 2,none⟩=some (.int .i64 (l.getD j rl0).pv)∧w.cell? ⟨b,off + j * 2 + 1,none⟩=some (.int .i64 (l.getD j rl0).ac):=by
 have hl:=h.len
 rw [rlc_length] at hl
 obtain ⟨b,off,cap,rfl,h1,h2,h3,h4⟩:=h.at_ hn
 refine ⟨b,off,cap,rfl,h1,h2,h3,by omega,fun j hj => ?_⟩
 have hjl:j < l.length:=by omega
 have a0:=h4 (j * 2 + 0) (by omega)
 have a1:=h4 (j * 2 + 1) (by omega)
 rw [rlc_at l j _ (by omega),List.getElem?_eq_getElem hjl] at a0 a1
 simp only [List.getD_eq_getElem?_getD,List.getElem?_eq_getElem hjl,Option.getD_some]
 exact ⟨a0,a1⟩
theorem Sl.rlLen {w:World} {B n:Nat} {v:Value} {l:List Rl} (h:Sl w B 2 v n (rlc l)):l.length=n:=by
 have hl:=h.len
 rw [rlc_length] at hl
 omega
def badR (l:List Rl) (k:Nat):Bool:=!(ruleB (l.getD k rl0).pv (l.getD k rl0).ac)
def FirstBad (l:List Rl) (n m:Nat):Prop:=m≤n∧(∀ i,i < m→badR l i=false)∧(m < n→badR l m=true)
def withinI (n most:Int):Bool:=decide (1≤n) && decide (n≤most)
end
section
structure Fr where
 dst:Nat
 src:Nat
 tagged:Bool
 tci:Nat
 typ:Nat
 load:List Nat
def Fr.zero:Fr:=⟨0,0,false,0,0,[]⟩
end
section
open Go.RowKit
def fx (k:Nat) (x:Int):Nat:=(IntKind.u64.wrap x).toNat % k
theorem u64_nonneg (x:Int):0≤IntKind.u64.wrap x:=by rw [IntKind.wrap_u64]; omega
theorem fx_tmod (k:Nat) (x:Int):(IntKind.u64.wrap x).tmod (k:Int)=(fx k x:Int):=by
 rw [Int.tmod_eq_emod_of_nonneg (u64_nonneg x)]
 have h:=u64_nonneg x
 unfold fx
 generalize IntKind.u64.wrap x=y at *
 obtain ⟨m,rfl⟩:∃ m:Nat,y=m:=⟨y.toNat,by omega⟩
 simp
theorem fx_lt {k:Nat} (hk:0 < k) (x:Int):fx k x < k:=Nat.mod_lt _ hk
theorem fx_wrap {k:Nat} (hk:0 < k) (hk2:k≤5000) (x:Int):wrap64 ((IntKind.u64.wrap x).tmod (k:Int))=(fx k x:Int):=by
 rw [fx_tmod]
 have:=fx_lt hk x
 exact IntWalk.wrap64_in _ (by omega)
theorem fx_one {k:Nat} (hk:0 < k) (hk2:k≤5000) (x:Int) (c:Nat) (hc:c≤100000):wrap64 ((c:Int) + (fx k x:Int))=((c + fx k x:Nat):Int):=by
 have:=fx_lt hk x
 rw [IntWalk.wrap64_in _ (by omega)]
 omega
theorem fx_sum {k:Nat} (hk:0 < k) (hk2:k≤5000) (x:Int) (c:Nat) (hc:c≤100000):wrap64 ((c:Int) + wrap64 ((IntKind.u64.wrap x).tmod (k:Int)))=((c + fx k x:Nat):Int):=by
 rw [fx_wrap hk hk2,fx_one hk hk2 x c hc]
theorem fx_sum' {k:Nat} (hk:0 < k) (hk2:k≤5000) (x:Int) (c:Nat) (hc:c≤100000):IntKind.i64.wrap ((c:Int) + IntKind.i64.wrap ((IntKind.u64.wrap x).tmod (k:Int)))=((c + fx k x:Nat):Int):=by
 have:=fx_lt hk x
 rw [fx_tmod,IntWalk.i64_in (fx k x:Int) (by omega),IntWalk.i64_in _ (by omega)]
 omega
theorem fx_mod' {k:Nat} (hk:0 < k) (hk2:k≤5000) (x:Int):IntKind.i64.wrap ((IntKind.u64.wrap x).tmod (k:Int))=(fx k x:Int):=by
 have:=fx_lt hk x
 rw [fx_tmod,IntWalk.i64_in _ (by omega)]
def fixRl (l:List Rl) (i:Nat):Rl:=if i < l.length then ⟨((1 + fx 4094 (l.getD i rl0).pv:Nat):Int),((fx 3 (l.getD i rl0).ac:Nat):Int)⟩ else ⟨1,0⟩
def fixRs (l:List Rl) (k:Nat):List Rl:=(List.range k).map (fixRl l)
theorem fixRs_succ (l:List Rl) (k:Nat):rlc (fixRs l (k + 1))=rlc (fixRs l k) ++ [.int .i64 (fixRl l k).pv,.int .i64 (fixRl l k).ac]:=by
 unfold fixRs
 rw [List.range_succ,List.map_append,rlc_append]
 rfl
def vidF (l:List Vl):Nat→Nat
 | 0 => 0
 | k + 1 => vidF l k + 1 + fx 3 (l.getD k vl0).vid
theorem vidF_le (l:List Vl):∀ k,vidF l k≤3 * k
 | 0 => Nat.le_refl _
 | k + 1 => by
  have:=vidF_le l k
  have:=fx_lt (k:=3) (by omega) (l.getD k vl0).vid
  unfold vidF
  omega
theorem vid_sum (v f:Nat) (hv:v≤100) (hf:f < 3):wrap64 (wrap64 ((v:Int) + 1) + (f:Int))=((v + 1 + f:Nat):Int):=by
 rw [IntWalk.wrap64_in ((v:Int) + 1) (by omega),IntWalk.wrap64_in _ (by omega)]
 omega
theorem vid_sum' (v f:Nat) (hv:v≤100) (hf:f < 3):wrap64 ((v:Int) + 1 + (f:Int))=((v + 1 + f:Nat):Int):=by
 rw [IntWalk.wrap64_in _ (by omega)]
 omega
def lowB (s j:Nat):Nat:=s % 2 ^ j
theorem lowB_zero (s:Nat):lowB s 0=0:=by simp [lowB,Nat.mod_one]
theorem lowB_bit (s j i:Nat):(lowB s j).testBit i=(decide (i < j) && s.testBit i):=by
 unfold lowB
 exact Nat.testBit_mod_two_pow ..
theorem lowB_yes {s j:Nat} (h:s.testBit j=true):lowB s j ||| 2 ^ j=lowB s (j + 1):=by
 apply Nat.eq_of_testBit_eq
 intro i
 rw [Nat.testBit_or,lowB_bit,lowB_bit,Nat.testBit_two_pow]
 by_cases e:j=i
 ·subst e; simp [h]
 ·have:decide (i < j + 1)=decide (i < j):=decide_eq_decide.mpr (by omega)
  rw [this]
  simp [e]
theorem lowB_no {s j:Nat} (h:s.testBit j=false):lowB s j=lowB s (j + 1):=by
 apply Nat.eq_of_testBit_eq
 intro i
 rw [lowB_bit,lowB_bit]
 by_cases e:j=i
 ·subst e; simp [h]
 ·have:decide (i < j + 1)=decide (i < j):=decide_eq_decide.mpr (by omega)
  rw [this]
theorem lowB_lt (s:Nat) {j:Nat} (hj:j≤64):lowB s j < 18446744073709551616 :=
 Nat.lt_of_lt_of_le (Nat.mod_lt _ (Nat.two_pow_pos j)) (Nat.le_trans (Nat.pow_le_pow_right (by omega) hj) (by decide))
theorem lowB_all {s:Nat} (h:s < 18446744073709551616):lowB s 64=s:=Nat.mod_eq_of_lt h
def fixVl (all:Nat) (l:List Vl) (i:Nat):Vl:=⟨(vidF l (i + 1):Int),all &&& (l.getD i vl0).mem,all &&& (l.getD i vl0).mem &&& (l.getD i vl0).unt⟩
def fixVs (all:Nat) (l:List Vl) (k:Nat):List Vl:=(List.range k).map (fixVl all l)
theorem fixVs_succ (all:Nat) (l:List Vl) (k:Nat):vlc (fixVs all l (k + 1))=vlc (fixVs all l k) ++ [.int .i64 (vidF l (k + 1):Int),.int .u64 ((all &&& (l.getD k vl0).mem:Nat):Int),.int .u64 ((all &&& (l.getD k vl0).mem &&& (l.getD k vl0).unt:Nat):Int)]:=by
 unfold fixVs
 rw [List.range_succ,List.map_append,vlc_append]
 rfl
theorem fixRs_getD (l:List Rl) {k i:Nat} (h:i < k):(fixRs l k).getD i rl0=fixRl l i:=by
 unfold fixRs
 rw [List.getD_eq_getElem?_getD,List.getElem?_map,List.getElem?_range h]
 rfl
theorem fixVs_getD (all:Nat) (l:List Vl) {k i:Nat} (h:i < k):(fixVs all l k).getD i vl0=fixVl all l i:=by
 unfold fixVs
 rw [List.getD_eq_getElem?_getD,List.getElem?_map,List.getElem?_range h]
 rfl
theorem fixR_good (l:List Rl) (i:Nat):badR (fixRs l (i + 1)) i=false:=by
 unfold badR
 rw [fixRs_getD l (by omega)]
 unfold fixRl ruleB vidB
 split
 ·have:=fx_lt (k:=4094) (by omega) (l.getD i rl0).pv
  have:=fx_lt (k:=3) (by omega) (l.getD i rl0).ac
  simp only [Bool.not_eq_false',Bool.and_eq_true,decide_eq_true_eq]
  omega
 ·rfl
theorem fixRs_first (l:List Rl) (P:Nat):FirstBad (fixRs l P) P P:=by
 refine ⟨Nat.le_refl _,fun i hi => ?_,fun h => absurd h (by omega)⟩
 have:=fixR_good l i
 unfold badR at *
 rw [fixRs_getD l (by omega)] at this
 rw [fixRs_getD l hi]
 exact this
theorem within_and (a b:Nat):withinB (a &&& b) a=true:=by
 unfold withinB
 rw [withinK_iff]
 intro i _ h
 rw [Nat.testBit_and,Bool.and_eq_true] at h
 exact h.1
theorem fixVs_check (l:List Vl) {P k:Nat} (h2:2≤P) (hP:P≤64) (hk:k≤8):checkN (fixVs (allN P) l k) P k=0:=by
 refine check0 (by omega) (by omega) fun i hi => ?_
 unfold wrongAt
 rw [fixVs_getD _ l hi]
 have hv:=vidF_le l (i + 1)
 have h3:vidF l (i + 1)=vidF l i + 1 + fx 3 (l.getD i vl0).vid:=rfl
 rw [if_neg,if_neg,if_neg]
 ·have:withinB (fixVl (allN P) l i).unt (fixVl (allN P) l i).mem=true:=within_and _ _
  rw [this]; simp
 ·have:withinB (fixVl (allN P) l i).mem (allN P)=true:=within_and _ _
  rw [this]; simp
 ·rintro (h | ⟨h,h'⟩)
  ·unfold vidB fixVl at h
   simp at h
   omega
  ·rw [fixVs_getD _ l (by omega)] at h'
   have h4:i - 1 + 1=i:=by omega
   unfold fixVl at h'
   rw [h4] at h'
   simp at h'
   omega
theorem fixVs_ok (l:List Vl) (all:Nat) (ha:all < 18446744073709551616) (k:Nat) (hk:k≤8):∀ x ∈ fixVs all l k,x.ok:=by
 intro x hx
 obtain ⟨i,hi,rfl⟩:=List.mem_map.mp hx
 have hi:=List.mem_range.mp hi
 have hv:=vidF_le l (i + 1)
 have h1:all &&& (l.getD i vl0).mem < 18446744073709551616:=Nat.lt_of_le_of_lt Nat.and_le_left ha
 refine ⟨?_,h1,Nat.lt_of_le_of_lt Nat.and_le_left h1⟩
 unfold fixVl
 simp only
 omega
end
end Go.Proofs.YtpcapdpglpgcbaaGreat
