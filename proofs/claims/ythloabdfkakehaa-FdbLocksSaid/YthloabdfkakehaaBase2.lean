/-
  Words and contracts that a statement's proof rests on (Base2, Base3, Plain, PlainFrame, Mac). No statement is proved here.
-/
import Derived.Laws.BitsAllLaws
import Derived.Below
import Derived.Test.YthloabdfkakehaaProg
import Derived.Handy
import Derived.WalkLawsBesides
import Derived.Lib.Hide
import Derived.Deep.QuietTactic
import Derived.BigQuiet
import Derived.Test.YthloabdfkakehaaBase
import Derived.Test.YthloabdfkakehaaTicks
set_option linter.unusedVariables false
set_option linter.unusedSimpArgs false
namespace Go.Proofs.Ythloabdfkakehaa
section
open Go.RowKit
def mkC (z:Value) (size M:Nat):Array Value:=madeCells z.cells (M * size)
theorem mkC_size (z:Value) (size M:Nat):(mkC z size M).size=M * size:=size_madeCells _ _
end
section
open Go.RowKit
theorem run_mkFull {P:Program} (w:World) {t e:TypeId} {z:Value} {size bytes:Nat} (hT:ST P t e z size bytes) (k:Nat) (hk:bytes * k≤281474976710656) :
  (Instr.makeSlice t (.int .i64 (k:Int)) (.int .i64 (k:Int))).run P w=.ok (.slice (some ⟨w.heap.size,0,none⟩) k k) (w.alloc (.cells (mkC z size k) e)):=by
 obtain ⟨i,ht,hi,hz,hsz,hby,hzs,hs0,hb0⟩:=hT
 have h1:k≤bytes * k:=Nat.le_mul_of_pos_left _ hb0
 have h2:(i.bytes:Int) * (k:Int)≤281474976710656:=by
  have h3:((bytes * k:Nat):Int)≤281474976710656:=by omega
  rw [hby]
  rwa [Int.natCast_mul] at h3
 have:=run_make (P:=P) w t e i z ht hi hz .i64 .i64 (k:Int) (k:Int) (by omega) (Int.le_refl _) h2 (by omega)
 rw [hsz] at this
 exact this
theorem Sl.set {w:World} {B n b off cap i:Nat} {xs:List Value} (h:Sl w B 1 (.slice (some ⟨b,off,none⟩) n cap) n xs) (hi:i < n) (u:Value):Sl (w.setCell ⟨b,off + i,none⟩ u) B 1 (.slice (some ⟨b,off,none⟩) n cap) n (xs.set i u):=by
 obtain ⟨hl,A',cap',hv,h1,h2,h3⟩:=h
 injection hv with e1 _ e2
 subst e1 e2
 refine ⟨by rw [List.length_set]; exact hl,_,cap,rfl,h1,h2,fun h0 => ?_⟩
 obtain ⟨b',off',hA,hB,hc⟩:=h3 h0
 injection hA with hA
 injection hA with e3 e4
 subst e3 e4
 refine ⟨b,off,rfl,hB,fun j hj => ?_⟩
 by_cases hij:i=j
 ·subst hij
  have hx:=hc i hj
  have hsome:xs[i]?=some (xs[i]'(by omega)):=List.getElem?_eq_getElem _
  rw [World.cell?_setCell_same _ _ _ (hx.trans hsome),List.getElem?_set_self (by omega)]
 ·rw [World.cell?_setCell_other _ _ _ _ (by simp),hc j hj,List.getElem?_set_ne hij]
end
section
theorem and_low (m:Nat):m &&& 281474976710655=m % 281474976710656:=by
 have:=Nat.and_two_pow_sub_one_eq_mod m 48
 simpa using this
theorem andNot_15 (a:Nat) (ha:a < 18446744073709551616):a &&& (18446744073709551615 - 15)=a / 16 * 16:=by
 have e1:(18446744073709551615 - 15:Nat)=(2 ^ 60 - 1) <<< 4:=by decide
 have e2:a / 16 * 16=(a >>> 4) <<< 4:=by rw [Nat.shiftLeft_eq,Nat.shiftRight_eq_div_pow]
 rw [e1,e2]
 apply Nat.eq_of_testBit_eq
 intro i
 simp only [Nat.testBit_and,Nat.testBit_shiftLeft,Nat.testBit_shiftRight,Nat.testBit_two_pow_sub_one]
 by_cases h4:i ≥ 4
 ·by_cases h64:i < 64
  ·have:i - 4 < 60:=by omega
   have e:4 + (i - 4)=i:=by omega
   simp [h4,this,e]
  ·have:a.testBit i=false:=Nat.testBit_lt_two_pow (Nat.lt_of_lt_of_le ha (by
    have:2 ^ 64≤2 ^ i:=Nat.pow_le_pow_right (by omega) (by omega)
    simpa using this))
   have e:4 + (i - 4)=i:=by omega
   simp [h4,this,e]
 ·simp [h4]
theorem and_bit (a k:Nat):a &&& 2 ^ k=(a / 2 ^ k % 2) * 2 ^ k:=by
 have hc:a.testBit k=decide (a / 2 ^ k % 2=1):=Nat.testBit_eq_decide_div_mod_eq ..
 have h2:a / 2 ^ k % 2=0 ∨ a / 2 ^ k % 2=1:=by omega
 apply Nat.eq_of_testBit_eq
 intro i
 rw [Nat.testBit_and,Nat.testBit_two_pow]
 by_cases hi:k=i
 ·subst hi
  rcases h2 with h | h <;> simp [hc,h]
 ·rcases h2 with h | h <;> simp [h,hi]
theorem and_40 (a:Nat):a &&& 1099511627776=(a / 1099511627776 % 2) * 1099511627776:=by
 have:=and_bit a 40
 simpa using this
def mb (m:Nat):List Nat:=[m / 1099511627776 % 256,m / 4294967296 % 256,m / 16777216 % 256,m / 65536 % 256,m / 256 % 256,m % 256]
def lastk (m:Nat):Nat→List Nat
 | 0 => []
 | k + 1 => (m / 256 ^ k % 256) :: lastk m k
theorem lastk_six (m:Nat):lastk m 6=mb m:=by simp [lastk,mb]
def kindN (m:Nat):Nat :=
 if m % 281474976710656=281474976710655 then 2 else if m % 281474976710656 / 16 * 16=1652522221568 then 3 else m / 1099511627776 % 2
def sl (s:ByteArray):List Nat:=s.data.toList.map (·.toNat)
end
section
structure Fr where
 dst:Nat
 src:Nat
 tagged:Bool
 tci:Nat
 typ:Nat
 load:List Nat
def Fr.zero:Fr:=⟨0,0,false,0,0,[]⟩
end
section
open Go.RowKit
set_option maxHeartbeats 400000 in
theorem mac_Right (m:Nat) (hm:m < 18446744073709551616) (w:World) :
  Calls Try.prog 102 #[.int .u64 (m:Int)] w fun e w' => e=.returned (.bool (decide (m < 281474976710656)))∧w=w':=by
 go_enter Try.func102,Try.ntmps102
 go_wp2
 go_ret
 exact ⟨ret_bool (by rw [decide_eq_decide]; omega),rfl⟩
theorem ref_Low (m:Nat) (w:World) :
  Calls Try.prog 116 #[.int .u64 (m:Int)] w fun e w' => e=.returned (.int .u64 (m % 281474976710656:Nat))∧w=w':=by
 go_enter Try.func116,Try.ntmps116
 go_wp2
 go_ret
 exact ⟨ret_u64 (by omega),rfl⟩
set_option maxHeartbeats 400000 in
theorem mac_Kind (m:Nat) (hm:m < 18446744073709551616) (w:World) :
  Calls Try.prog 103 #[.int .u64 (m:Int)] w fun e w' => e=.returned (.int .i64 (kindN m:Nat))∧w=w':=by
 have h1:bits .and .u64 (m:Int) 281474976710655=((m % 281474976710656:Nat):Int):=by
  have:=u64_and_nat m 281474976710655 hm (by omega)
  rw [and_low] at this
  exact this
 have hk:kindN m=if m % 281474976710656=281474976710655 then 2 else if m % 281474976710656 / 16 * 16=1652522221568 then 3 else m % 281474976710656 / 1099511627776 % 2:=by
  unfold kindN
  split
  ·rfl
  ·split
   ·rfl
   ·omega
 obtain ⟨L,hL⟩:∃ L,L=m % 281474976710656:=⟨_,rfl⟩
 have hLb:L < 281474976710656:=by omega
 rw [← hL] at h1 hk
 have HK:=Lib.hid hk
 clear hk hL
 have h2:bits .andNot .u64 (L:Int) 15=((L / 16 * 16:Nat):Int):=by
  have:=u64_andNot_nat L 15 (by omega) (by omega)
  rw [andNot_15 L (by omega)] at this
  exact this
 have h3:bits .and .u64 (L:Int) 1099511627776=((L / 1099511627776 % 2 * 1099511627776:Nat):Int):=by
  have:=u64_and_nat L 1099511627776 (by omega) (by omega)
  rw [and_40] at this
  exact this
 go_enter Try.func103,Try.ntmps103
 go_wp2
 all_goals go_ret
 all_goals refine ⟨ret_i64 ?_,rfl⟩
 all_goals rw [HK.out]
 all_goals simp only [beq_iff_eq,beq_eq_false_iff_ne,bne_iff_ne,bne_eq_false_iff_eq,ne_eq] at *
 ·rw [if_pos (by omega)]; rfl
 ·rw [if_neg (by omega),if_pos (by omega)]; rfl
 ·rw [if_neg (by omega),if_neg (by omega)]; omega
 ·rw [if_neg (by omega),if_neg (by omega)]; omega
def Made (e:TypeId) (size n:Nat) (xs:List Value) (w:World) (en:Ending) (w':World):Prop :=
 ∃ v,en=.returned v∧w'.ownsRow w.heap.size e size v n xs∧Below w.heap.size w w'
theorem stBytes:ST Try.prog 155 5 (.int .u8 0) 1 1:=ST.mk Try.underlying155 (by kernel_rfl) rfl (by omega) (by omega)
set_option maxHeartbeats 400000 in
theorem ref_Bytes (m:Nat) (hm:m < 18446744073709551616) (w:World) :
  Calls Try.prog 117 #[.int .u64 (m:Int)] w (Made 5 1 6 (bv (mb m)) w):=by
 go_enter Try.func117,Try.ntmps117
 go_wp2
 go_loopw [0,3,4] (fun q v i wr => ∃ k:Nat,k≤6∧i=.int .i64 k∧q=.int .u64 (m / 256 ^ k:Nat)∧wr.ownsRow w.heap.size 5 1 v k (bv (lastk m k))∧Below w.heap.size w wr) (fun _ _ i _ => 6 - (intOf i).toNat)
 case atStart => exact ⟨0,by omega,rfl,by simp,World.ownsRow_nil _ _ _ _,Below.refl _ _⟩
 case round =>
  obtain ⟨k,hk,rfl,rfl,hown,hbel⟩:=hrel
  have hsz:=hbel.size
  by_cases hlt:k < 6
  ·obtain ⟨q,hq⟩:∃ q,q=m / 256 ^ k:=⟨_,rfl⟩
   have hqb:q < 18446744073709551616:=by
    have:=Nat.div_le_self m (256 ^ k)
    omega
   have HQ:Hid (bv (lastk m (k + 1))=[.int .u8 ((q:Int) % 256)] ++ bv (lastk m k)):=by
    rw [hq]
    simp [Hid,lastk,bv]
   have HQ2:Hid (m / 256 ^ (k + 1)=q / 256):=by
    show _=_
    rw [Nat.pow_succ,← Nat.div_div_eq_div_mul,hq]
   rw [← hq]
   clear hq
   go_wp2_with (first
    | (at_builtin; refine wpList_app _ rfl stBytes (.tmp 12) (.tmp 13) rfl w.heap.size _ 1 [.int .u8 ((q:Int) % 256)] rfl (World.ownsRow_lit wr #[.int .u8 ((q:Int) % 256)] 1 hsz (by decide) rfl) wr.heap.size _ k (bv (lastk m k)) rfl ((Sl.of_own hown).alloc (Nat.le_refl _) _) (bv_one _) (by omega) (by simp; omega) ?_; intro v1 w1 hown1 hg1 hat1 hbel1))
   go_roundw
   case rel =>
    refine ⟨k + 1,by omega,by go_num,by rw [HQ2.out]; go_num,?_,?_⟩
    ·rw [HQ.out,Nat.add_comm]; exact hown1
    ·exact (hbel.alloc hsz _).trans hbel1
   case measure => simp [intOf]; omega
  ·have:k=6:=by omega
   subst this
   go_wp2
   go_ret
   exact ⟨_,rfl,by rw [← lastk_six]; exact hown,hbel⟩
theorem six {w:World} {B:Nat} {v:Value} {m:Nat} {e:TypeId} (h:w.ownsRow B e 1 v 6 (bv (mb m))):∃ g cap,v=.slice (some ⟨g,0,none⟩) 6 cap∧B≤g∧g < w.heap.size∧6≤cap ∧
  w.cell? ⟨g,0,none⟩=some (.int .u8 (m / 1099511627776 % 256:Nat))∧w.cell? ⟨g,1,none⟩=some (.int .u8 (m / 4294967296 % 256:Nat))∧w.cell? ⟨g,2,none⟩=some (.int .u8 (m / 16777216 % 256:Nat)) ∧
  w.cell? ⟨g,3,none⟩=some (.int .u8 (m / 65536 % 256:Nat))∧w.cell? ⟨g,4,none⟩=some (.int .u8 (m / 256 % 256:Nat))∧w.cell? ⟨g,5,none⟩=some (.int .u8 (m % 256:Nat)):=by
 rcases h.2 with ⟨_,h0⟩ | ⟨g,cap,cur,rfl,hb,hg,hc,_⟩
 ·omega
 ·refine ⟨g,cap,rfl,hb,(Array.getElem?_eq_some_iff.1 hg).1,hc,?_,?_,?_,?_,?_,?_⟩ <;> (rw [h.cellAt _ (by omega)]; simp [bv,mb])
end
end Go.Proofs.Ythloabdfkakehaa
