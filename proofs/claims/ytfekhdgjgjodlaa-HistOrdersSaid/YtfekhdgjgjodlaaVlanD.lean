/-
  Words and contracts that a statement's proof rests on (VlanD, VlanG, Store). No statement is proved here.
-/
import Derived.Deep.QuietTactic
import Derived.Deep.MidRow
import Derived.Test.YtfekhdgjgjodlaaPlainKy
import Derived.Test.YtfekhdgjgjodlaaTicks
import Derived.Test.YtfekhdgjgjodlaaKeyA
import Derived.Test.YtfekhdgjgjodlaaPlainFx
set_option linter.unusedVariables false
set_option linter.unusedSimpArgs false
namespace Go.Proofs.Ytfekhdgjgjodlaa
section
open Go.RowKit
set_option maxHeartbeats 800000 in
theorem vlan_Find {l:List Vl} {n:Nat} {v:Value} {w:World} {B:Nat} (hv:Sl w B 3 v n (vlc l)) (hB:B≤w.heap.size) (vid:Int) :
  Calls Try.prog 67 #[v,.int .i64 vid] w (Says (.int .i64 (findN l vid n)) w):=by
 by_cases hn0:0 < n
 ·obtain ⟨b,off,cap,rfl,hcap,hmx,hb,hlen,hcell⟩:=hv.vlAt hn0
  unfold maxLen at hmx
  have HC:=Lib.hid hcell
  have HV:=Lib.hid hv
  clear hv hcell hlen
  go_enter Try.func67,Try.ntmps67
  go_wp2
  go_loopw [9] (fun i wr => ∃ k:Nat,k≤n∧i=.int .i64 k∧Hid (∀ i,i < k→vidAt l vid i=false)∧Hid (Below w.heap.size w wr)) (fun i _ => n - (intOf i).toNat)
  case atStart => exact ⟨0,by omega,rfl,fun i hi => by omega,Below.refl _ _⟩
  case round =>
   obtain ⟨k,hk,rfl,HF,HBW⟩:=hrel
   rename_i wr _
   by_cases hlt:k < n
   ·obtain ⟨c0,c1,c2⟩:=HC.out k hlt
    have hbw:=(bcell HBW.out).1
    have e0:=(hbw b (off + k * 3) (by omega)).trans c0
    have e1:=(hbw b (off + k * 3 + 1) (by omega)).trans c1
    have e2:=(hbw b (off + k * 3 + 2) (by omega)).trans c2
    obtain ⟨x,hx⟩:∃ x,x=l.getD k vl0:=⟨_,rfl⟩
    rw [← hx] at e0 e1 e2
    have hvid:vidAt l vid k=(x.vid == vid):=by unfold vidAt; rw [← hx]
    have HVID:=Lib.hid hvid
    clear hbw c0 c1 c2 hx hvid HC
    cases hxv:x.vid == vid
    ·rw [hxv] at HVID
     have hne:¬ x.vid=vid:=by simpa using hxv
     clear hxv
     go_wp2
     go_roundw
     case rel => exact ⟨k + 1,by omega,by go_num,fun i hi => by
       rcases Nat.lt_or_ge i k with h | h
       ·exact HF.out i h
       ·obtain rfl:i=k:=by omega
        exact HVID.out,HBW.out.alloc HBW.out.size _⟩
     case measure => simp [intOf]; omega
    ·rw [hxv] at HVID
     have heq:x.vid=vid:=by simpa using hxv
     clear hxv
     go_wp2
     go_ret
     exact ⟨ret_i64 (by unfold findN; rw [firstI_at _ k HF.out HVID.out n hlt]),HBW.out.alloc HBW.out.size _⟩
   ·have:k=n:=by omega
    subst this
    go_wp2
    go_ret
    exact ⟨ret_i64 (by unfold findN; rw [firstI_none _ _ HF.out]),HBW.out⟩
 ·obtain rfl:n=0:=by omega
  obtain ⟨A,cap,rfl,hcap,hmx⟩:=hv.form
  clear hv hn0
  go_enter Try.func67,Try.ntmps67
  go_wp2
  go_loopw [9] (fun i wr => i=.int .i64 0∧wr=w) (fun _ _ => 0)
  case atStart => exact ⟨rfl,rfl⟩
  case round =>
   obtain ⟨rfl,rfl⟩:=hrel
   go_wp2
   go_ret
   exact ⟨rfl,Below.refl _ _⟩
end
section
open Go.RowKit
set_option maxHeartbeats 400000 in
theorem vlan_rightVid (v:Int) (w:World) :
  Calls Try.prog 43 #[.int .i64 v] w fun e w' => e=.returned (.bool (vidB v))∧w=w':=by
 unfold vidB
 by_cases h1:1≤v
 ·go_enter Try.func43,Try.ntmps43
  go_wp2
  go_ret
  exact ⟨ret_bool (by simp [h1]),rfl⟩
 ·go_enter Try.func43,Try.ntmps43
  go_wp2
  go_ret
  exact ⟨ret_bool (by simp; omega),rfl⟩
set_option maxHeartbeats 400000 in
theorem vlan_Right (p a:Int) (w:World) :
  Calls Try.prog 46 #[.agg #[.int .i64 p,.int .i64 a]] w (Says (.bool (ruleB p a)) w):=by
 unfold ruleB
 have hV:=fun W => vlan_rightVid p W
 generalize vidB p=z at *
 have HV:=Lib.hid hV
 clear hV
 cases z
 ·go_enter Try.func46,Try.ntmps46
  go_wp2_with fail
  refine (HV.out _).mono ?_
  rintro e w1 ⟨rfl,rfl⟩
  go_wp2
  go_ret
  exact ⟨ret_bool (by simp),(Below.refl _ _).alloc (Nat.le_refl _) _⟩
 ·by_cases h1:0≤a
  ·go_enter Try.func46,Try.ntmps46
   go_wp2_with fail
   refine (HV.out _).mono ?_
   rintro e w1 ⟨rfl,rfl⟩
   go_wp2
   go_ret
   exact ⟨ret_bool (by simp [h1]),(Below.refl _ _).alloc (Nat.le_refl _) _⟩
  ·go_enter Try.func46,Try.ntmps46
   go_wp2_with fail
   refine (HV.out _).mono ?_
   rintro e w1 ⟨rfl,rfl⟩
   go_wp2
   go_ret
   exact ⟨ret_bool (by simp; omega),(Below.refl _ _).alloc (Nat.le_refl _) _⟩
set_option maxHeartbeats 400000 in
theorem vlan_All (n:Int) (w:World) :
  Calls Try.prog 44 #[.int .i64 n] w fun e w' => e=.returned (.int .u64 (allN n:Nat))∧w=w':=by
 unfold allN
 by_cases h:64≤n
 ·rw [if_pos h]
  go_enter Try.func44,Try.ntmps44
  go_wp2
  go_ret
  exact ⟨rfl,rfl⟩
 ·rw [if_neg h]
  by_cases h0:n < 0
  ·have:n.toNat=0:=by omega
   rw [this]
   go_enter Try.func44,Try.ntmps44
   go_wp2
   all_goals go_ret
   all_goals exact ⟨ret_u64 (by simp),rfl⟩
  ·obtain ⟨k,rfl⟩:=Int.eq_ofNat_of_zero_le (show 0≤n by omega)
   have hk:k < 64:=by omega
   rw [Int.toNat_natCast]
   have hb:=bit_wrap hk
   have hl:=bit_lt hk
   have hp:=Nat.two_pow_pos k
   have hs:IntKind.u64.wrap (((2 ^ k:Nat):Int) - 1)=((2 ^ k - 1:Nat):Int):=by
    rw [IntWalk.u64_in _ (by omega)]; omega
   have HB:=Lib.hid hb
   have HS:=Lib.hid hs
   clear hb hs hl hp
   go_enter Try.func44,Try.ntmps44
   go_wp2
   all_goals go_ret
   all_goals exact ⟨ret_u64 (by rw [HB.out,HS.out]),rfl⟩
set_option maxHeartbeats 400000 in
theorem ref3_All (n:Int) (w:World) :
  Calls Try.prog 22 #[.int .i64 n] w fun e w' => e=.returned (.int .u64 (allN n:Nat))∧w=w':=by
 obtain ⟨m,hm⟩:∃ m:Nat,m=if 64≤n then 64 else n.toNat:=⟨_,rfl⟩
 have hm64:m≤64:=by rw [hm]; split <;> omega
 have hstop:∀ k:Nat,k < m ↔ ((k:Int) < n∧k < 64):=fun k => by rw [hm]; split <;> omega
 have hval:allN n=2 ^ m - 1:=by unfold allN; rw [hm]; split <;> rfl
 obtain ⟨A,hA⟩:∃ A,A=allN n:=⟨_,rfl⟩
 rw [← hA] at hval ⊢
 have HV:=Lib.hid hval
 have HS:=Lib.hid hstop
 clear hm hA hval hstop
 go_enter Try.func22,Try.ntmps22
 go_wp2
 go_loop [3,4] (fun s i => ∃ k y:Nat,k≤m∧i=.int .i64 k∧s=.int .u64 (y:Nat)∧Hid (y=2 ^ k - 1)) (fun _ i => m - (intOf i).toNat)
 case atStart => exact ⟨0,0,by omega,rfl,rfl,rfl⟩
 case round =>
  obtain ⟨k,y,hk,rfl,rfl,HY⟩:=hrel
  by_cases hlt:k < m
  ·obtain ⟨h1,h2⟩:=(HS.out k).1 hlt
   have hyl:y < 18446744073709551616:=by
    have:=bit_lt h2
    rw [HY.out]; omega
   have hW:=fun W => ref3_With y hyl (k:Int) W
   have hw2:withN y (k:Int)=2 ^ (k + 1) - 1:=by rw [HY.out]; exact with_ones k h2
   obtain ⟨z,hz⟩:∃ z,z=withN y (k:Int):=⟨_,rfl⟩
   rw [← hz] at hW hw2
   have HW:=Lib.hid hW
   have HZ:Hid (z=2 ^ (k + 1) - 1):=hw2
   have h2':(k:Int) < 64:=by omega
   clear hW hw2 hz hyl
   go_wp2_with fail
   refine (HW.out _).mono ?_
   rintro e w1 ⟨rfl,rfl⟩
   go_wp2
   go_round
   case rel => exact ⟨k + 1,z,by omega,by go_num,rfl,HZ⟩
   case measure => simp [intOf]; omega
  ·have:k=m:=by omega
   subst this
   have hn:¬ ((k:Int) < n∧k < 64):=fun h => hlt ((HS.out k).2 h)
   by_cases h1:(k:Int) < n
   ·have h2:¬ (k:Int) < 64:=by omega
    go_wp2
    go_ret
    exact ⟨ret_u64 (by rw [HV.out,HY.out]),rfl⟩
   ·go_wp2
    go_ret
    exact ⟨ret_u64 (by rw [HV.out,HY.out]),rfl⟩
def aheadN (l:List Vl) (k:Nat):Int:=if k=0 then 0 else (l.getD (k - 1) vl0).vid
theorem wrong6a {l:List Vl} {ports:Int} {k:Nat} (h:vidB (l.getD k vl0).vid=false):wrongAt l ports k=6:=by unfold wrongAt; rw [if_pos (.inl h)]
theorem wrong6b {l:List Vl} {ports:Int} {k:Nat} (h:vidB (l.getD k vl0).vid=true) (h2:(l.getD k vl0).vid≤aheadN l k):wrongAt l ports k=6:=by
 have h3:0 < k∧(l.getD k vl0).vid≤(l.getD (k - 1) vl0).vid:=by
  unfold aheadN at h2
  unfold vidB at h
  simp only [Bool.and_eq_true,decide_eq_true_eq] at h
  split at h2
  ·omega
  ·exact ⟨by omega,h2⟩
 unfold wrongAt
 rw [if_pos (.inr h3)]
theorem wrongC {l:List Vl} {k:Nat} (h:vidB (l.getD k vl0).vid=true) (h2:¬ (l.getD k vl0).vid≤aheadN l k):¬ (vidB (l.getD k vl0).vid=false ∨ (0 < k∧(l.getD k vl0).vid≤(l.getD (k - 1) vl0).vid)):=by
 rintro (h3 | ⟨h3,h4⟩)
 ·rw [h] at h3; cases h3
 ·apply h2
  unfold aheadN
  rw [if_neg (by omega)]
  exact h4
theorem wrong5 {l:List Vl} {ports:Int} {k:Nat} (h:vidB (l.getD k vl0).vid=true) (h2:¬ (l.getD k vl0).vid≤aheadN l k) (h3:withinB (l.getD k vl0).mem (allN ports)=false):wrongAt l ports k=5:=by
 unfold wrongAt; rw [if_neg (wrongC h h2),if_pos h3]
theorem wrong1 {l:List Vl} {ports:Int} {k:Nat} (h:vidB (l.getD k vl0).vid=true) (h2:¬ (l.getD k vl0).vid≤aheadN l k) (h3:withinB (l.getD k vl0).mem (allN ports)=true) (h4:withinB (l.getD k vl0).unt (l.getD k vl0).mem=false):wrongAt l ports k=1:=by
 unfold wrongAt; rw [if_neg (wrongC h h2),if_neg (by rw [h3]; simp),if_pos h4]
theorem wrong0 {l:List Vl} {ports:Int} {k:Nat} (h:vidB (l.getD k vl0).vid=true) (h2:¬ (l.getD k vl0).vid≤aheadN l k) (h3:withinB (l.getD k vl0).mem (allN ports)=true) (h4:withinB (l.getD k vl0).unt (l.getD k vl0).mem=true):wrongAt l ports k=0:=by
 unfold wrongAt; rw [if_neg (wrongC h h2),if_neg (by rw [h3]; simp),if_neg (by rw [h4]; simp)]
theorem all_step {f:Nat→Nat} {k:Nat} (h:∀ i,i < k→f i=0) (hk:f k=0):∀ i,i < k + 1→f i=0:=by
 intro i hi
 rcases Nat.lt_or_ge i k with h1 | h1
 ·exact h i h1
 ·obtain rfl:i=k:=by omega
  exact hk
end
section
open Go.RowKit
theorem heap_setCell_far (w:World) (p:Addr) (v:Value) {k:Nat} (h:k ≠ p.block):(w.setCell p v).heap[k]?=w.heap[k]?:=by
 unfold World.setCell
 simp only [Array.getElem?_modify]
 rw [if_neg (fun e => h e.symm)]
theorem heap_setCells_far (b:Nat):∀ (vs:List Value) (o:Nat) (w:World) {k:Nat},k ≠ b→(w.setCells b o vs).heap[k]?=w.heap[k]?
 | [],_,_,_,_ => rfl
 | v :: r,o,w,_,h => (heap_setCells_far b r (o + 1) _ h).trans (heap_setCell_far w ⟨b,o,none⟩ v h)
theorem below_setCells {B b:Nat} (hB:B≤b):∀ (vs:List Value) (o:Nat) (w0 w:World),Below B w0 w→Below B w0 (w.setCells b o vs)
 | [],_,_,_,h => h
 | v :: r,o,w0,_,h => below_setCells hB r (o + 1) w0 _ (h.setCell hB v)
theorem size_setCells (b:Nat):∀ (vs:List Value) (o:Nat) (w:World),(w.setCells b o vs).heap.size=w.heap.size
 | [],_,_ => rfl
 | v :: r,o,w => (size_setCells b r (o + 1) _).trans (by simp)
structure Stored (w:World) (b o:Nat) (vs:List Value) (w':World):Prop where
 cells:∀ j v,vs[j]?=some v→w'.cell? ⟨b,o + j,none⟩=some v
 far:∀ k,k ≠ b→w'.heap[k]?=w.heap[k]?
 size:w'.heap.size=w.heap.size
 below:∀ B,B≤b→Below B w w'
 marks:∀ p,w'.frozen? p=w.frozen? p
theorem Stored.mk_ (w:World) (b o:Nat) (vs:List Value) (ht:w.there b o vs.length):Stored w b o vs (w.setCells b o vs) :=
 ⟨World.rangeAt_setCells_same w b o vs ht,fun _ h => heap_setCells_far b vs o w h,size_setCells b vs o w,fun _ hB => below_setCells hB vs o w w (Below.refl _ _),fun p => World.frozen?_setCells b vs o w p⟩
section
variable {P:Program}
theorem step_store {ops:Array Oper} {op:Oper} {a:Act} {w:World} {K:Act→World→Prop} {Q:Exit→Act→World→Prop} {E:Prop} (hgd:op.guard=none) (ty:TypeId) (x y:Operand) (ho:op.op=.store ty x y)
  (b o:Nat) (cells:Array Value) (hx:a.eval x=.pointer (some ⟨b,o,none⟩)) (hy:a.eval y=.agg cells)
  (ht:w.there b o cells.size) (hi:(P.info? ty).map (·.size)=some cells.size) (h1:cells.all (·.oneCell')=true)
  (h:∀ w',Stored w b o cells.toList w'→K (a.put op.dst undef) w'):if Region.wanted op (yielded ops a.tmps)=true then Oper.wp P op a w K Q else E:=by
 have hw:Region.wanted op (yielded ops a.tmps)=true:=by simp [Region.wanted,hgd]
 rw [if_pos hw]
 exact wp_store_mid ty x y ho b o cells hx hy ht hi h1 (h _ (Stored.mk_ w b o cells.toList (by simpa using ht)))
theorem wpList_store {ops:Array Oper} {rest:List Oper} {op:Oper} {a:Act} {w:World} {Q:Exit→Act→World→Prop} (hgd:op.guard=none) (ty:TypeId) (x y:Operand) (ho:op.op=.store ty x y)
  (b o:Nat) (cells:Array Value) (hx:a.eval x=.pointer (some ⟨b,o,none⟩)) (hy:a.eval y=.agg cells)
  (ht:w.there b o cells.size) (hi:(P.info? ty).map (·.size)=some cells.size) (h1:cells.all (·.oneCell')=true)
  (h:∀ w',Stored w b o cells.toList w'→wpList P ops Q rest (a.put op.dst undef) w'):wpList P ops Q (op :: rest) a w :=
 wpList_store_mid hgd ty x y ho b o cells hx hy ht hi h1 (h _ (Stored.mk_ w b o cells.toList (by simpa using ht)))
end
end
end Go.Proofs.Ytfekhdgjgjodlaa
