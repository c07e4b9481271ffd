/-
  Words and contracts that a statement's proof rests on (VlanA, PlainFx). No statement is proved here.
-/
import Derived.Test.YtfekhdgjgjodlaaProg
import Derived.Handy
import Derived.WalkLawsBesides
import Derived.Lib.Hide
import Derived.Laws.BitsAllLaws
import Derived.Deep.QuietTactic
import Derived.Test.YtfekhdgjgjodlaaBase
import Derived.Test.YtfekhdgjgjodlaaPlainKy
import Derived.Test.YtfekhdgjgjodlaaKeyA
set_option linter.unusedVariables false
set_option linter.unusedSimpArgs false
namespace Go.Proofs.Ytfekhdgjgjodlaa
section
open Go.RowKit
theorem bit_wrap {p:Nat} (hp:p < 64):IntKind.u64.wrap (2 ^ p)=((2 ^ p:Nat):Int):=by
 have:=bit_lt hp
 have h:((2:Int) ^ p)=((2 ^ p:Nat):Int):=by simp
 rw [h]
 generalize 2 ^ p=y at *
 exact IntWalk.u64_in _ (by omega)
set_option maxHeartbeats 400000 in
theorem vlan_bit_out (p:Int) (hp:p < 0 ∨ 64≤p) (w:World) :
  Calls Try.prog 89 #[.int .i64 p] w fun e w' => e=.returned (.int .u64 0)∧w=w':=by
 go_enter Try.func89,Try.ntmps89
 by_cases h0:p < 0
 ·go_wp2
  go_ret
  exact ⟨rfl,rfl⟩
 ·have h1:(64:Int)≤p:=by omega
  go_wp2
  go_ret
  exact ⟨rfl,rfl⟩
set_option maxHeartbeats 400000 in
theorem vlan_bit_in (p:Nat) (hp:p < 64) (w:World) :
  Calls Try.prog 89 #[.int .i64 (p:Int)] w fun e w' => e=.returned (.int .u64 ((2 ^ p:Nat):Int))∧w=w':=by
 have h0:¬ (p:Int) < 0:=by omega
 have h1:¬ (64:Int)≤(p:Int):=by omega
 go_enter Try.func89,Try.ntmps89
 go_wp2
 go_ret
 exact ⟨by simp [bit_wrap hp],rfl⟩
set_option maxHeartbeats 400000 in
theorem vlan_Has (s:Nat) (hs:s < 18446744073709551616) (p:Int) (w:World) :
  Calls Try.prog 79 #[.int .u64 (s:Int),.int .i64 p] w fun e w' => e=.returned (.bool (hasB s p))∧w=w':=by
 by_cases hp:p < 0 ∨ 64≤p
 ·have hq:bits .and .u64 (s:Int) 0=0:=by
   have:=u64_and_nat s 0 hs (by omega)
   rw [Nat.and_zero] at this
   exact this
  have hB:=Lib.hid fun W => vlan_bit_out p hp W
  go_enter Try.func79,Try.ntmps79
  go_wp2_with fail
  refine (hB.out _).mono ?_
  rintro e w1 ⟨rfl,rfl⟩
  go_wp2
  go_ret
  exact ⟨ret_bool (by rw [hasB_out s hp]),rfl⟩
 ·obtain ⟨k,rfl⟩:=Int.eq_ofNat_of_zero_le (show 0≤p by omega)
  have hk:k < 64:=by omega
  obtain ⟨y,hy⟩:∃ y,y=2 ^ k:=⟨_,rfl⟩
  have hB:=vlan_bit_in k hk
  rw [← hy] at hB
  have HB:=Lib.hid hB
  have hq:=u64_and_nat s (2 ^ k) hs (bit_lt hk)
  rw [← hy] at hq
  have HY:=Lib.hid hy
  clear hB hy
  go_enter Try.func79,Try.ntmps79
  go_wp2_with fail
  refine (HB.out _).mono ?_
  rintro e w1 ⟨rfl,rfl⟩
  go_wp2
  go_ret
  exact ⟨ret_bool (by rw [hasB_in s hk,← has_and,HY.out]),rfl⟩
set_option maxHeartbeats 400000 in
theorem ref3_bit (p:Nat) (hp:p < 64) (w:World) :
  Calls Try.prog 32 #[.int .i64 (p:Int)] w fun e w' => e=.returned (.int .u64 ((2 ^ p:Nat):Int))∧w=w':=by
 obtain ⟨Y,hY⟩:∃ Y,Y=2 ^ p:=⟨_,rfl⟩
 rw [← hY]
 have HYY:=Lib.hid hY
 clear hY
 go_enter Try.func32,Try.ntmps32
 go_wp2
 go_loop [3,4] (fun n i => ∃ k y:Nat,k≤p∧i=.int .i64 k∧n=.int .u64 (y:Nat)∧Hid (y=2 ^ k)) (fun _ i => p - (intOf i).toNat)
 case atStart => exact ⟨0,1,by omega,rfl,rfl,rfl⟩
 case round =>
  obtain ⟨k,y,hk,rfl,rfl,HY⟩:=hrel
  by_cases hlt:k < p
  ·have hy:y≤4611686018427387904:=by
    have:=Nat.pow_le_pow_right (n:=2) (by omega) (show k≤62 by omega)
    rw [HY.out]
    exact Nat.le_trans this (by decide)
   go_wp2
   go_round
   case rel => exact ⟨k + 1,y * 2,by omega,by go_num,by go_num,by show y * 2=2 ^ (k + 1); rw [HY.out,Nat.pow_succ]⟩
   case measure => simp [intOf]; omega
  ·have:k=p:=by omega
   subst this
   go_wp2
   go_ret
   exact ⟨ret_u64 (by rw [HYY.out,HY.out]),rfl⟩
set_option maxHeartbeats 400000 in
theorem ref3_Has (s:Nat) (hs:s < 18446744073709551616) (p:Int) (w:World) :
  Calls Try.prog 23 #[.int .u64 (s:Int),.int .i64 p] w fun e w' => e=.returned (.bool (hasB s p))∧w=w':=by
 by_cases hp:p < 0 ∨ 64≤p
 ·go_enter Try.func23,Try.ntmps23
  by_cases h0:p < 0
  ·go_wp2
   go_ret
   exact ⟨ret_bool (by rw [hasB_out s hp]),rfl⟩
  ·have h1:(64:Int)≤p:=by omega
   go_wp2
   go_ret
   exact ⟨ret_bool (by rw [hasB_out s hp]),rfl⟩
 ·obtain ⟨k,rfl⟩:=Int.eq_ofNat_of_zero_le (show 0≤p by omega)
  have hk:k < 64:=by omega
  obtain ⟨y,hy⟩:∃ y,y=2 ^ k:=⟨_,rfl⟩
  have hB:=ref3_bit k hk
  have hpos:=Nat.two_pow_pos k
  have hyl:=bit_lt hk
  rw [← hy] at hB hpos hyl
  have hne:¬ (y:Int)=0:=by omega
  obtain ⟨q,hq⟩:∃ q,q=s / y:=⟨_,rfl⟩
  have hql:q≤s:=by rw [hq]; exact Nat.div_le_self _ _
  have hqi:(s:Int) / (y:Int)=(q:Int):=by rw [hq]; simp
  have hqw:IntKind.u64.wrap ((s:Int) / (y:Int))=(q:Int):=by rw [hqi]; exact IntWalk.u64_in _ (by omega)
  have HB:=Lib.hid hB
  have HY:=Lib.hid hy
  have HQ:=Lib.hid hq
  clear hB hy hp hq hqi hql
  have h0:(0:Int)≤(k:Int):=by omega
  have h1:(k:Int) < 64:=by omega
  go_enter Try.func23,Try.ntmps23
  go_wp2_with fail
  refine (HB.out _).mono ?_
  rintro e w1 ⟨rfl,rfl⟩
  go_wp2
  go_ret
  refine ⟨ret_bool ?_,rfl⟩
  rw [hasB_in s hk,Nat.testBit_eq_decide_div_mod_eq,← HY.out,← HQ.out,Bool.eq_iff_iff]
  simp
  omega
set_option maxHeartbeats 400000 in
theorem ref3_With (s:Nat) (hs:s < 18446744073709551616) (p:Int) (w:World) :
  Calls Try.prog 24 #[.int .u64 (s:Int),.int .i64 p] w fun e w' => e=.returned (.int .u64 (withN s p:Nat))∧w=w':=by
 by_cases hp:p < 0 ∨ 64≤p
 ·go_enter Try.func24,Try.ntmps24
  by_cases h0:p < 0
  ·go_wp2
   go_ret
   exact ⟨by rw [withN_out s hp]; rfl,rfl⟩
  ·have h1:(63:Int) < p:=by omega
   go_wp2
   go_ret
   exact ⟨by rw [withN_out s hp]; rfl,rfl⟩
 ·have hH:=fun W => ref3_Has s hs p W
  obtain ⟨k,rfl⟩:=Int.eq_ofNat_of_zero_le (show 0≤p by omega)
  have hk:k < 64:=by omega
  obtain ⟨y,hy⟩:∃ y,y=2 ^ k:=⟨_,rfl⟩
  have hB:=ref3_bit k hk
  rw [← hy] at hB
  have HB:=Lib.hid hB
  have HY:=Lib.hid hy
  rw [hasB_in s hk] at hH
  have h0:¬ (k:Int) < 0:=by omega
  have h1:¬ (63:Int) < (k:Int):=by omega
  clear hB hp
  cases hb:s.testBit k
  ·rw [hb] at hH
   have e:=or_bit_add hs hk hb
   have hl:=withN_lt hs (k:Int)
   rw [withN_in s hk,e,← hy] at hl
   rw [← hy] at e
   have HH:=Lib.hid hH
   have HE:=Lib.hid e
   clear hH e hy hb
   go_enter Try.func24,Try.ntmps24
   go_wp2_with fail
   refine (HH.out _).mono ?_
   rintro e w1 ⟨rfl,rfl⟩
   go_wp2_with fail
   refine (HB.out _).mono ?_
   rintro e w1 ⟨rfl,rfl⟩
   have hw:IntKind.u64.wrap ((s:Int) + (y:Int))=(s:Int) + (y:Int):=IntWalk.u64_in _ (by omega)
   go_wp2
   go_ret
   exact ⟨ret_u64 (by rw [withN_in s hk,← HY.out,HE.out]; simp),rfl⟩
  ·rw [hb] at hH
   have e:=or_bit_same hb
   have HH:=Lib.hid hH
   have HE:=Lib.hid e
   clear hH e hy hb
   go_enter Try.func24,Try.ntmps24
   go_wp2_with fail
   refine (HH.out _).mono ?_
   rintro e w1 ⟨rfl,rfl⟩
   go_wp2
   go_ret
   exact ⟨ret_u64 (by rw [withN_in s hk,HE.out]),rfl⟩
end
section
open Go.RowKit
def fx (k:Nat) (x:Int):Nat:=(IntKind.u64.wrap x).toNat % k
theorem u64_nonneg (x:Int):0≤IntKind.u64.wrap x:=by rw [IntKind.wrap_u64]; omega
theorem fx_tmod (k:Nat) (x:Int):(IntKind.u64.wrap x).tmod (k:Int)=(fx k x:Int):=by
 rw [Int.tmod_eq_emod_of_nonneg (u64_nonneg x)]
 have h:=u64_nonneg x
 unfold fx
 generalize IntKind.u64.wrap x=y at *
 obtain ⟨m,rfl⟩:∃ m:Nat,y=m:=⟨y.toNat,by omega⟩
 simp
theorem fx_lt {k:Nat} (hk:0 < k) (x:Int):fx k x < k:=Nat.mod_lt _ hk
theorem fx_wrap {k:Nat} (hk:0 < k) (hk2:k≤5000) (x:Int):wrap64 ((IntKind.u64.wrap x).tmod (k:Int))=(fx k x:Int):=by
 rw [fx_tmod]
 have:=fx_lt hk x
 exact IntWalk.wrap64_in _ (by omega)
theorem fx_one {k:Nat} (hk:0 < k) (hk2:k≤5000) (x:Int) (c:Nat) (hc:c≤100000):wrap64 ((c:Int) + (fx k x:Int))=((c + fx k x:Nat):Int):=by
 have:=fx_lt hk x
 rw [IntWalk.wrap64_in _ (by omega)]
 omega
theorem fx_sum {k:Nat} (hk:0 < k) (hk2:k≤5000) (x:Int) (c:Nat) (hc:c≤100000):wrap64 ((c:Int) + wrap64 ((IntKind.u64.wrap x).tmod (k:Int)))=((c + fx k x:Nat):Int):=by
 rw [fx_wrap hk hk2,fx_one hk hk2 x c hc]
theorem fx_sum' {k:Nat} (hk:0 < k) (hk2:k≤5000) (x:Int) (c:Nat) (hc:c≤100000):IntKind.i64.wrap ((c:Int) + IntKind.i64.wrap ((IntKind.u64.wrap x).tmod (k:Int)))=((c + fx k x:Nat):Int):=by
 have:=fx_lt hk x
 rw [fx_tmod,IntWalk.i64_in (fx k x:Int) (by omega),IntWalk.i64_in _ (by omega)]
 omega
theorem fx_mod' {k:Nat} (hk:0 < k) (hk2:k≤5000) (x:Int):IntKind.i64.wrap ((IntKind.u64.wrap x).tmod (k:Int))=(fx k x:Int):=by
 have:=fx_lt hk x
 rw [fx_tmod,IntWalk.i64_in _ (by omega)]
def fixRl (l:List Rl) (i:Nat):Rl:=if i < l.length then ⟨((1 + fx 4094 (l.getD i rl0).pv:Nat):Int),((fx 3 (l.getD i rl0).ac:Nat):Int)⟩ else ⟨1,0⟩
def fixRs (l:List Rl) (k:Nat):List Rl:=(List.range k).map (fixRl l)
theorem fixRs_succ (l:List Rl) (k:Nat):rlc (fixRs l (k + 1))=rlc (fixRs l k) ++ [.int .i64 (fixRl l k).pv,.int .i64 (fixRl l k).ac]:=by
 unfold fixRs
 rw [List.range_succ,List.map_append,rlc_append]
 rfl
def vidF (l:List Vl):Nat→Nat
 | 0 => 0
 | k + 1 => vidF l k + 1 + fx 3 (l.getD k vl0).vid
theorem vidF_le (l:List Vl):∀ k,vidF l k≤3 * k
 | 0 => Nat.le_refl _
 | k + 1 => by
  have:=vidF_le l k
  have:=fx_lt (k:=3) (by omega) (l.getD k vl0).vid
  unfold vidF
  omega
theorem vid_sum (v f:Nat) (hv:v≤100) (hf:f < 3):wrap64 (wrap64 ((v:Int) + 1) + (f:Int))=((v + 1 + f:Nat):Int):=by
 rw [IntWalk.wrap64_in ((v:Int) + 1) (by omega),IntWalk.wrap64_in _ (by omega)]
 omega
theorem vid_sum' (v f:Nat) (hv:v≤100) (hf:f < 3):wrap64 ((v:Int) + 1 + (f:Int))=((v + 1 + f:Nat):Int):=by
 rw [IntWalk.wrap64_in _ (by omega)]
 omega
def lowB (s j:Nat):Nat:=s % 2 ^ j
theorem lowB_zero (s:Nat):lowB s 0=0:=by simp [lowB,Nat.mod_one]
theorem lowB_bit (s j i:Nat):(lowB s j).testBit i=(decide (i < j) && s.testBit i):=by
 unfold lowB
 exact Nat.testBit_mod_two_pow ..
theorem lowB_yes {s j:Nat} (h:s.testBit j=true):lowB s j ||| 2 ^ j=lowB s (j + 1):=by
 apply Nat.eq_of_testBit_eq
 intro i
 rw [Nat.testBit_or,lowB_bit,lowB_bit,Nat.testBit_two_pow]
 by_cases e:j=i
 ·subst e; simp [h]
 ·have:decide (i < j + 1)=decide (i < j):=decide_eq_decide.mpr (by omega)
  rw [this]
  simp [e]
theorem lowB_no {s j:Nat} (h:s.testBit j=false):lowB s j=lowB s (j + 1):=by
 apply Nat.eq_of_testBit_eq
 intro i
 rw [lowB_bit,lowB_bit]
 by_cases e:j=i
 ·subst e; simp [h]
 ·have:decide (i < j + 1)=decide (i < j):=decide_eq_decide.mpr (by omega)
  rw [this]
theorem lowB_lt (s:Nat) {j:Nat} (hj:j≤64):lowB s j < 18446744073709551616 :=
 Nat.lt_of_lt_of_le (Nat.mod_lt _ (Nat.two_pow_pos j)) (Nat.le_trans (Nat.pow_le_pow_right (by omega) hj) (by decide))
theorem lowB_all {s:Nat} (h:s < 18446744073709551616):lowB s 64=s:=Nat.mod_eq_of_lt h
def fixVl (all:Nat) (l:List Vl) (i:Nat):Vl:=⟨(vidF l (i + 1):Int),all &&& (l.getD i vl0).mem,all &&& (l.getD i vl0).mem &&& (l.getD i vl0).unt⟩
def fixVs (all:Nat) (l:List Vl) (k:Nat):List Vl:=(List.range k).map (fixVl all l)
theorem fixVs_succ (all:Nat) (l:List Vl) (k:Nat):vlc (fixVs all l (k + 1))=vlc (fixVs all l k) ++ [.int .i64 (vidF l (k + 1):Int),.int .u64 ((all &&& (l.getD k vl0).mem:Nat):Int),.int .u64 ((all &&& (l.getD k vl0).mem &&& (l.getD k vl0).unt:Nat):Int)]:=by
 unfold fixVs
 rw [List.range_succ,List.map_append,vlc_append]
 rfl
theorem fixRs_getD (l:List Rl) {k i:Nat} (h:i < k):(fixRs l k).getD i rl0=fixRl l i:=by
 unfold fixRs
 rw [List.getD_eq_getElem?_getD,List.getElem?_map,List.getElem?_range h]
 rfl
theorem fixVs_getD (all:Nat) (l:List Vl) {k i:Nat} (h:i < k):(fixVs all l k).getD i vl0=fixVl all l i:=by
 unfold fixVs
 rw [List.getD_eq_getElem?_getD,List.getElem?_map,List.getElem?_range h]
 rfl
theorem fixR_good (l:List Rl) (i:Nat):badR (fixRs l (i + 1)) i=false:=by
 unfold badR
 rw [fixRs_getD l (by omega)]
 unfold fixRl ruleB vidB
 split
 ·have:=fx_lt (k:=4094) (by omega) (l.getD i rl0).pv
  have:=fx_lt (k:=3) (by omega) (l.getD i rl0).ac
  simp only [Bool.not_eq_false',Bool.and_eq_true,decide_eq_true_eq]
  omega
 ·rfl
theorem fixRs_first (l:List Rl) (P:Nat):FirstBad (fixRs l P) P P:=by
 refine ⟨Nat.le_refl _,fun i hi => ?_,fun h => absurd h (by omega)⟩
 have:=fixR_good l i
 unfold badR at *
 rw [fixRs_getD l (by omega)] at this
 rw [fixRs_getD l hi]
 exact this
theorem within_and (a b:Nat):withinB (a &&& b) a=true:=by
 unfold withinB
 rw [withinK_iff]
 intro i _ h
 rw [Nat.testBit_and,Bool.and_eq_true] at h
 exact h.1
theorem fixVs_check (l:List Vl) {P k:Nat} (h2:2≤P) (hP:P≤64) (hk:k≤8):checkN (fixVs (allN P) l k) P k=0:=by
 refine check0 (by omega) (by omega) fun i hi => ?_
 unfold wrongAt
 rw [fixVs_getD _ l hi]
 have hv:=vidF_le l (i + 1)
 have h3:vidF l (i + 1)=vidF l i + 1 + fx 3 (l.getD i vl0).vid:=rfl
 rw [if_neg,if_neg,if_neg]
 ·have:withinB (fixVl (allN P) l i).unt (fixVl (allN P) l i).mem=true:=within_and _ _
  rw [this]; simp
 ·have:withinB (fixVl (allN P) l i).mem (allN P)=true:=within_and _ _
  rw [this]; simp
 ·rintro (h | ⟨h,h'⟩)
  ·unfold vidB fixVl at h
   simp at h
   omega
  ·rw [fixVs_getD _ l (by omega)] at h'
   have h4:i - 1 + 1=i:=by omega
   unfold fixVl at h'
   rw [h4] at h'
   simp at h'
   omega
theorem fixVs_ok (l:List Vl) (all:Nat) (ha:all < 18446744073709551616) (k:Nat) (hk:k≤8):∀ x ∈ fixVs all l k,x.ok:=by
 intro x hx
 obtain ⟨i,hi,rfl⟩:=List.mem_map.mp hx
 have hi:=List.mem_range.mp hi
 have hv:=vidF_le l (i + 1)
 have h1:all &&& (l.getD i vl0).mem < 18446744073709551616:=Nat.lt_of_le_of_lt Nat.and_le_left ha
 refine ⟨?_,h1,Nat.lt_of_le_of_lt Nat.and_le_left h1⟩
 unfold fixVl
 simp only
 omega
end
end Go.Proofs.Ytfekhdgjgjodlaa
