/-
  Words and contracts that a statement's proof rests on (PlainVlanC, PlainMo, Kit, Mac, Keep, PlainFx). No statement is proved here.
-/
import Derived.Test.YtfekhdgjgjodlaaGreatProg
import Derived.Handy
import Derived.WalkLawsBesides
import Derived.Lib.Hide
import Derived.Deep.QuietTactic
import Derived.BigQuiet
import Derived.Deep.RegionHeld
import Derived.Laws.BitsAllLaws
import Derived.Test.YtfekhdgjgjodlaaGreatBase
import Derived.Test.YtfekhdgjgjodlaaGreatPlainVl
set_option linter.unusedVariables false
set_option linter.unusedSimpArgs false
namespace Go.Proofs.YtfekhdgjgjodlaaGreat
section
def withinK (a b:Nat):Nat→Bool
 | 0 => true
 | k + 1 => withinK a b k && !(a.testBit k && !b.testBit k)
def withinB (a b:Nat):Bool:=withinK a b 64
theorem withinK_iff (a b:Nat):∀ k,withinK a b k=true ↔ ∀ i,i < k→a.testBit i=true→b.testBit i=true
 | 0 => by simp [withinK]
 | k + 1 => by
  rw [withinK,Bool.and_eq_true,withinK_iff a b k]
  constructor
  ·rintro ⟨h1,h2⟩ i hi ha
   rcases Nat.lt_or_ge i k with h | h
   ·exact h1 i h ha
   ·obtain rfl:i=k:=by omega
    rw [ha] at h2
    simpa using h2
  ·intro h
   refine ⟨fun i hi => h i (by omega),?_⟩
   cases hk:a.testBit k
   ·rfl
   ·rw [h k (by omega) hk]; rfl
theorem andNot_within {a b:Nat} (ha:a < 18446744073709551616) (hb:b < 18446744073709551616):(((a &&& (18446744073709551615 - b):Nat):Int) != 0)=!withinB a b:=by
 have e:18446744073709551615 - b=2 ^ 64 - (b + 1):=by omega
 have hz:(a &&& (18446744073709551615 - b)=0) ↔ withinB a b=true:=by
  unfold withinB
  rw [withinK_iff,e]
  constructor
  ·intro h i hi hai
   have h2:=congrArg (fun x => x.testBit i) h
   simp only [Nat.testBit_and,Nat.zero_testBit] at h2
   rw [Nat.testBit_two_pow_sub_succ (by omega),hai] at h2
   simpa [hi] using h2
  ·intro h
   apply Nat.eq_of_testBit_eq
   intro i
   rw [Nat.testBit_and,Nat.zero_testBit,Nat.testBit_two_pow_sub_succ (by omega)]
   by_cases hi:i < 64
   ·cases hai:a.testBit i
    ·rfl
    ·rw [h i hi hai]; simp
   ·have:a.testBit i=false:=Nat.testBit_lt_two_pow (Nat.lt_of_lt_of_le ha (show 2 ^ 64≤2 ^ i from Nat.pow_le_pow_right (by omega) (by omega)))
    simp [this]
 generalize a &&& (18446744073709551615 - b)=x at *
 cases h:withinB a b
 ·have:¬ x=0:=fun hx => by rw [hz.1 hx] at h; cases h
  simp; omega
 ·have:=hz.2 h
  subst this
  rfl
def allN (n:Int):Nat:=if 64≤n then 18446744073709551615 else 2 ^ n.toNat - 1
theorem allN_lt (n:Int):allN n < 18446744073709551616:=by
 unfold allN
 split
 ·omega
 ·rename_i h
  have:=bit_lt (show n.toNat < 64 by omega)
  omega
theorem with_ones (k:Nat) (hk:k < 64):withN (2 ^ k - 1) (k:Int)=2 ^ (k + 1) - 1:=by
 have h0:=Nat.two_pow_pos k
 have h1:=bit_lt hk
 rw [withN_in _ hk,or_bit_add (by omega) hk (by rw [Nat.testBit_two_pow_sub_one]; simp),Nat.pow_succ]
 omega
def vidB (v:Int):Bool:=decide (1≤v) && decide (v≤4094)
def ruleB (p a:Int):Bool:=vidB p && (decide (0≤a) && decide (a≤2))
def wrongAt (l:List Vl) (ports:Int) (i:Nat):Nat :=
 if vidB (l.getD i vl0).vid=false ∨ (0 < i∧(l.getD i vl0).vid≤(l.getD (i - 1) vl0).vid) then 6
 else if withinB (l.getD i vl0).mem (allN ports)=false then 5
 else if withinB (l.getD i vl0).unt (l.getD i vl0).mem=false then 1 else 0
def firstW (f:Nat→Nat):Nat→Nat
 | 0 => 0
 | k + 1 => if firstW f k=0 then f k else firstW f k
theorem firstW_none (f:Nat→Nat):∀ k,(∀ i,i < k→f i=0)→firstW f k=0
 | 0,_ => rfl
 | k + 1,h => by
  rw [firstW,firstW_none f k fun i hi => h i (by omega),if_pos rfl]
  exact h k (by omega)
theorem firstW_at (f:Nat→Nat) (k:Nat) (h:∀ i,i < k→f i=0) (hk:f k ≠ 0):∀ n,k < n→firstW f n=f k
 | 0,h0 => by omega
 | n + 1,h0 => by
  rw [firstW]
  rcases Nat.lt_or_ge k n with h1 | h1
  ·rw [firstW_at f k h hk n h1,if_neg hk]
  ·obtain rfl:k=n:=by omega
   rw [firstW_none f k h,if_pos rfl]
def checkN (l:List Vl) (ports:Int) (n:Nat):Nat:=if ports < 2 ∨ 64 < ports then 5 else if 16 < n then 8 else firstW (wrongAt l ports) n
theorem check5 {l:List Vl} {ports:Int} {n:Nat} (h:ports < 2 ∨ 64 < ports):checkN l ports n=5:=by unfold checkN; rw [if_pos h]
theorem check8 {l:List Vl} {ports:Int} {n:Nat} (h:¬ (ports < 2 ∨ 64 < ports)) (h2:16 < n):checkN l ports n=8:=by unfold checkN; rw [if_neg h,if_pos h2]
theorem check0 {l:List Vl} {ports:Int} {n:Nat} (h:¬ (ports < 2 ∨ 64 < ports)) (h2:¬ 16 < n) (h3:∀ i,i < n→wrongAt l ports i=0):checkN l ports n=0:=by unfold checkN; rw [if_neg h,if_neg h2]; exact firstW_none _ _ h3
theorem checkAt {l:List Vl} {ports:Int} {n k E:Nat} (h:¬ (ports < 2 ∨ 64 < ports)) (h2:¬ 16 < n) (h3:∀ i,i < k→wrongAt l ports i=0) (hk:k < n) (he:wrongAt l ports k=E) (hE:E ≠ 0):checkN l ports n=E:=by
 unfold checkN; rw [if_neg h,if_neg h2,firstW_at _ k h3 (by rw [he]; exact hE) n hk]; exact he
end
section
open Go.RowKit
structure Rl where
 pv:Int
 ac:Int
def rl0:Rl:=⟨0,0⟩
def Rl.cells (x:Rl):List Value:=[.int .i64 x.pv,.int .i64 x.ac]
def rlc:List Rl→List Value
 | [] => []
 | x :: l => x.cells ++ rlc l
theorem rlc_length:∀ l:List Rl,(rlc l).length=l.length * 2
 | [] => rfl
 | x :: l => by
  have:=rlc_length l
  simp [rlc,Rl.cells,this]
  omega
theorem rlc_append:∀ a b:List Rl,rlc (a ++ b)=rlc a ++ rlc b
 | [],b => rfl
 | x :: a,b => by simp [rlc,rlc_append a b]
theorem rlc_at:∀ (l:List Rl) (j f:Nat),f < 2→(rlc l)[j * 2 + f]?=(l[j]?).bind fun x => x.cells[f]?
 | [],j,f,_ => by simp [rlc]
 | x :: l,0,f,h => by
  rw [rlc,List.getElem?_append_left (by simp [Rl.cells]; omega)]
  simp
 | x :: l,j + 1,f,h => by
  have:=rlc_at l j f h
  rw [rlc,List.getElem?_append_right (by simp [Rl.cells]; omega)]
  have e:(j + 1) * 2 + f - x.cells.length=j * 2 + f:=by simp [Rl.cells]; omega
  rw [e,this]
  simp
theorem Sl.rlAt {w:World} {B n:Nat} {v:Value} {l:List Rl} (h:Sl w B 2 v n (rlc l)) (hn:0 < n) :
  ∃ b off cap,v=.slice (some ⟨b,off,none⟩) n cap∧n≤cap∧cap≤maxLen∧b < B∧l.length=n ∧
   ∀ j,j < n→w.cell? ⟨b,off + j * 2,none⟩=some (.int .i64 (l.getD j rl0).pv)∧w.cell? ⟨b,off + j * 2 + 1,none⟩=some (.int .i64 (l.getD j rl0).ac):=by
 have hl:=h.len
 rw [rlc_length] at hl
 obtain ⟨b,off,cap,rfl,h1,h2,h3,h4⟩:=h.at_ hn
 refine ⟨b,off,cap,rfl,h1,h2,h3,by omega,fun j hj => ?_⟩
 have hjl:j < l.length:=by omega
 have a0:=h4 (j * 2 + 0) (by omega)
 have a1:=h4 (j * 2 + 1) (by omega)
 rw [rlc_at l j _ (by omega),List.getElem?_eq_getElem hjl] at a0 a1
 simp only [List.getD_eq_getElem?_getD,List.getElem?_eq_getElem hjl,Option.getD_some]
 exact ⟨a0,a1⟩
theorem Sl.rlLen {w:World} {B n:Nat} {v:Value} {l:List Rl} (h:Sl w B 2 v n (rlc l)):l.length=n:=by
 have hl:=h.len
 rw [rlc_length] at hl
 omega
def badR (l:List Rl) (k:Nat):Bool:=!(ruleB (l.getD k rl0).pv (l.getD k rl0).ac)
def FirstBad (l:List Rl) (n m:Nat):Prop:=m≤n∧(∀ i,i < m→badR l i=false)∧(m < n→badR l m=true)
def withinI (n most:Int):Bool:=decide (1≤n) && decide (n≤most)
end
section
open Go.RowKit
theorem ret_u64 {a b:Int} (h:a=b):Ending.returned (.int .u64 a)=.returned (.int .u64 b):=by rw [h]
theorem ret_i64 {a b:Int} (h:a=b):Ending.returned (.int .i64 a)=.returned (.int .i64 b):=by rw [h]
theorem ret_bool {a b:Bool} (h:a=b):Ending.returned (.bool a)=.returned (.bool b):=by rw [h]
def Says (v:Value) (w:World) (e:Ending) (w':World):Prop:=e=.returned v∧Below w.heap.size w w'
theorem below_drewN {B:Nat} {a w:World} (h:Below B a w) (n:Nat):Below B a (w.drewN n):=⟨h.os,h.tape,h.output,h.size,h.block⟩
theorem bcell {W w1:World} {B:Nat} (hb:Below B W w1):(∀ b o,b < B→w1.cell? ⟨b,o,none⟩=W.cell? ⟨b,o,none⟩)∧(∀ b o,b < B→w1.frozen? ⟨b,o,none⟩=W.frozen? ⟨b,o,none⟩) :=
 ⟨fun b o h => hb.cell (p:=⟨b,o,none⟩) h,fun b o h => hb.frozen (p:=⟨b,o,none⟩) h⟩
theorem sqA {α:Type} {l:List α} {i:Nat} {a:α}:l.toArray.setIfInBounds i a=(l.set i a).toArray:=List.setIfInBounds_toArray ..
theorem sqB {α:Type} {x a:α} {l:List α}:(x :: l).set 0 a=a :: l:=List.set_cons_zero
theorem sqC {α:Type} {x a:α} {l:List α} {i:Nat}:(x :: l).set (i + 1) a=x :: l.set i a:=List.set_cons_succ
section
variable {P:Program} {md:Region.Mode} {ops:Array Oper} {Q:Exit→Act→World→Prop} {S:World→Prop} {fuel:Nat} {listed:Array Bool} {a:Act} {w:World} {d:Option Tmp} {o:Op} {t:TypeId} {p:String} {f:Array Edge} {g:Option (Nat × Bool)} {v:Value}
theorem tkR {listed':Array Bool} {a':Act} (i:Nat) (hi:ops[i]?=some ⟨d,o,t,p,f,g⟩) (h:wpAnyH P md ops Q S fuel listed' a' w) (hv:∀ w,S w→(execOp a.eval ⟨d,o,t,p,f,g⟩).run P w=.ok (.value v) w:=by (intro w hSw; (try dsimp only at hSw); go_simp; try with_reducible rfl)) (ha:a.put d v=a':=by ((try simp only [Act.put,sqA,sqB,sqC]); with_reducible rfl)) (hl:listed.setIfInBounds i true=listed':=by ((try simp only [sqA,sqB,sqC]); with_reducible rfl)) (hw:Region.wanted ⟨d,o,t,p,f,g⟩ (yielded ops a.tmps)=true:=by rfl) (hs:Region.noSelect ops=true:=by kernel_rfl) (hf:Region.free md ops listed i=true:=by kernel_rfl) (hr:(Region.ready md ops listed).contains i=true:=by kernel_rfl) (hQ:∀ c a w,Q (.panic c) (a.put d v) w→Q (.panic c) a w:=by exact fun _ _ _ h => h) (hS:S w:=by assumption):wpAnyH P md ops Q S (fuel + 1) listed a w:=by
 subst ha
 subst hl
 exact wpAnyH_take hi hs hf hr hQ (Or.inl ⟨hw,hv⟩) hS h
theorem skR {listed':Array Bool} {a':Act} (i:Nat) (hi:ops[i]?=some ⟨d,o,t,p,f,g⟩) (h:wpAnyH P md ops Q S fuel listed' a' w) (ha:a.put d undef=a':=by ((try simp only [Act.put,sqA,sqB,sqC]); with_reducible rfl)) (hl:listed.setIfInBounds i true=listed':=by ((try simp only [sqA,sqB,sqC]); with_reducible rfl)) (hw:Region.wanted ⟨d,o,t,p,f,g⟩ (yielded ops a.tmps)=false:=by rfl) (hs:Region.noSelect ops=true:=by kernel_rfl) (hf:Region.free md ops listed i=true:=by kernel_rfl) (hr:(Region.ready md ops listed).contains i=true:=by kernel_rfl) (hQ:∀ c a w,Q (.panic c) (a.put d undef) w→Q (.panic c) a w:=by exact fun _ _ _ h => h) (hS:S w:=by assumption):wpAnyH P md ops Q S (fuel + 1) listed a w:=by
 subst ha
 subst hl
 exact wpAnyH_take hi hs hf hr hQ (Or.inr ⟨hw,rfl⟩) hS h
theorem clR (i:Nat) (hi:ops[i]?=some ⟨d,o,t,p,f,g⟩)
  (h:∀ K':Act→World→Prop,Shut (∀ a w,S w→(S w→wpAnyH P md ops Q S fuel (listed.setIfInBounds i true) a w)→K' a w)→if Region.wanted ⟨d,o,t,p,f,g⟩ (yielded ops a.tmps)=true then Oper.wp P ⟨d,o,t,p,f,g⟩ a w K' Q else K' (a.put d undef) w) (hr:Region.ready md ops listed=[i]:=by kernel_rfl):wpAnyH P md ops Q S (fuel + 1) listed a w :=
 wpAnyH_ready hr (List.cons_ne_nil _ _) (AllReadyH.cons hi h AllReadyH.nil)
theorem acR {i:Nat} {rs:List Nat} (hi:ops[i]?=some ⟨d,o,t,p,f,g⟩)
  (h:∀ K':Act→World→Prop,Shut (∀ a w,S w→(S w→wpAnyH P md ops Q S fuel (listed.setIfInBounds i true) a w)→K' a w)→if Region.wanted ⟨d,o,t,p,f,g⟩ (yielded ops a.tmps)=true then Oper.wp P ⟨d,o,t,p,f,g⟩ a w K' Q else K' (a.put d undef) w) (hs:AllReadyH P md ops Q S fuel listed a w rs):AllReadyH P md ops Q S fuel listed a w (i :: rs):=AllReadyH.cons hi h hs
end
theorem box14 {w w0:World} {T:TypeId} {v0 v1 v2 v3 v4 v5 v6 v7 v8 v9 v10 v11 v12 v13:Value} (h:w0=w.alloc (.cells #[v0,v1,v2,v3,v4,v5,v6,v7,v8,v9,v10,v11,v12,v13] T)):∀ w',Below w0.heap.size w0 w'→w'.cell? ⟨w.heap.size,0,none⟩=some v0∧w'.cell? ⟨w.heap.size,1,none⟩=some v1∧w'.cell? ⟨w.heap.size,2,none⟩=some v2∧w'.cell? ⟨w.heap.size,3,none⟩=some v3∧w'.cell? ⟨w.heap.size,4,none⟩=some v4∧w'.cell? ⟨w.heap.size,5,none⟩=some v5∧w'.cell? ⟨w.heap.size,6,none⟩=some v6∧w'.cell? ⟨w.heap.size,7,none⟩=some v7∧w'.cell? ⟨w.heap.size,8,none⟩=some v8∧w'.cell? ⟨w.heap.size,9,none⟩=some v9∧w'.cell? ⟨w.heap.size,10,none⟩=some v10∧w'.cell? ⟨w.heap.size,11,none⟩=some v11∧w'.cell? ⟨w.heap.size,12,none⟩=some v12∧w'.cell? ⟨w.heap.size,13,none⟩=some v13:=fun w' hb => by
 rw [h] at hb
 refine ⟨?_,?_,?_,?_,?_,?_,?_,?_,?_,?_,?_,?_,?_,?_⟩ <;>
 ·rw [hb.cell (by show w.heap.size < _; simp)]
  simp [go_sem]
theorem box14b (w:World) (T:TypeId) (v0 v1 v2 v3 v4 v5 v6 v7 v8 v9 v10 v11 v12 v13:Value):∀ w',Below (w.heap.size + 1) (w.alloc (.cells #[v0,v1,v2,v3,v4,v5,v6,v7,v8,v9,v10,v11,v12,v13] T)) w'→w'.cell? ⟨w.heap.size,0,none⟩=some v0∧w'.cell? ⟨w.heap.size,1,none⟩=some v1∧w'.cell? ⟨w.heap.size,2,none⟩=some v2∧w'.cell? ⟨w.heap.size,3,none⟩=some v3∧w'.cell? ⟨w.heap.size,4,none⟩=some v4∧w'.cell? ⟨w.heap.size,5,none⟩=some v5∧w'.cell? ⟨w.heap.size,6,none⟩=some v6∧w'.cell? ⟨w.heap.size,7,none⟩=some v7∧w'.cell? ⟨w.heap.size,8,none⟩=some v8∧w'.cell? ⟨w.heap.size,9,none⟩=some v9∧w'.cell? ⟨w.heap.size,10,none⟩=some v10∧w'.cell? ⟨w.heap.size,11,none⟩=some v11∧w'.cell? ⟨w.heap.size,12,none⟩=some v12∧w'.cell? ⟨w.heap.size,13,none⟩=some v13:=fun w' hb => by
 refine ⟨?_,?_,?_,?_,?_,?_,?_,?_,?_,?_,?_,?_,?_,?_⟩ <;>
 ·rw [hb.cell (by show w.heap.size < _; omega)]
  simp [go_sem]
theorem low14 {w:World} {o:Obj} {C:World→Prop} (_:∀ w',Below (w.heap.size + 1) (w.alloc o) w'→C w'):∀ w',Below (w.heap.size + 1) (w.alloc o) w'→Below w.heap.size w w':=fun w' hb => ((Below.refl w.heap.size w).alloc (Nat.le_refl _) _).trans (hb.mono (by omega))
theorem up14 {w:World} {o:Obj} {C:World→Prop} (_:∀ w',Below (w.heap.size + 1) (w.alloc o) w'→C w'):∀ w' w'',Below (w.heap.size + 1) (w.alloc o) w'→Below w'.heap.size w' w''→Below (w.heap.size + 1) (w.alloc o) w'':=fun w' w'' h1 h2 => h1.trans (h2.mono (by have:=h1.size; simp at this; omega))
theorem self14 {w:World} {o:Obj} {C:World→Prop} (_:∀ w',Below (w.heap.size + 1) (w.alloc o) w'→C w'):Below (w.heap.size + 1) (w.alloc o) (w.alloc o):=Below.refl _ _
end
section
open Go.RowKit
set_option maxHeartbeats 400000 in
theorem mac_Right (m:Nat) (hm:m < 18446744073709551616) (w:World) :
  Calls Tryz.prog 144 #[.int .u64 (m:Int)] w fun e w' => e=.returned (.bool (decide (m < 281474976710656)))∧w=w':=by
 go_enter Tryz.func144,Tryz.ntmps144
 go_wp2
 go_ret
 exact ⟨ret_bool (by rw [decide_eq_decide]; omega),rfl⟩
theorem ref_Low (m:Nat) (w:World) :
  Calls Tryz.prog 121 #[.int .u64 (m:Int)] w fun e w' => e=.returned (.int .u64 (m % 281474976710656:Nat))∧w=w':=by
 go_enter Tryz.func121,Tryz.ntmps121
 go_wp2
 go_ret
 exact ⟨ret_u64 (by omega),rfl⟩
set_option maxHeartbeats 400000 in
theorem mac_Kind (m:Nat) (hm:m < 18446744073709551616) (w:World) :
  Calls Tryz.prog 145 #[.int .u64 (m:Int)] w fun e w' => e=.returned (.int .i64 (kindN m:Nat))∧w=w':=by
 have h1:bits .and .u64 (m:Int) 281474976710655=((m % 281474976710656:Nat):Int):=by
  have:=u64_and_nat m 281474976710655 hm (by omega)
  rw [and_low] at this
  exact this
 have hk:kindN m=if m % 281474976710656=281474976710655 then 2 else if m % 281474976710656 / 16 * 16=1652522221568 then 3 else m % 281474976710656 / 1099511627776 % 2:=by
  unfold kindN
  split
  ·rfl
  ·split
   ·rfl
   ·omega
 obtain ⟨L,hL⟩:∃ L,L=m % 281474976710656:=⟨_,rfl⟩
 have hLb:L < 281474976710656:=by omega
 rw [← hL] at h1 hk
 have HK:=Lib.hid hk
 clear hk hL
 have h2:bits .andNot .u64 (L:Int) 15=((L / 16 * 16:Nat):Int):=by
  have:=u64_andNot_nat L 15 (by omega) (by omega)
  rw [andNot_15 L (by omega)] at this
  exact this
 have h3:bits .and .u64 (L:Int) 1099511627776=((L / 1099511627776 % 2 * 1099511627776:Nat):Int):=by
  have:=u64_and_nat L 1099511627776 (by omega) (by omega)
  rw [and_40] at this
  exact this
 go_enter Tryz.func145,Tryz.ntmps145
 go_wp2
 all_goals go_ret
 all_goals refine ⟨ret_i64 ?_,rfl⟩
 all_goals rw [HK.out]
 all_goals simp only [beq_iff_eq,beq_eq_false_iff_ne,bne_iff_ne,bne_eq_false_iff_eq,ne_eq] at *
 ·rw [if_pos (by omega)]; rfl
 ·rw [if_neg (by omega),if_pos (by omega)]; rfl
 ·rw [if_neg (by omega),if_neg (by omega)]; omega
 ·rw [if_neg (by omega),if_neg (by omega)]; omega
def Made (e:TypeId) (size n:Nat) (xs:List Value) (w:World) (en:Ending) (w':World):Prop :=
 ∃ v,en=.returned v∧w'.ownsRow w.heap.size e size v n xs∧Below w.heap.size w w'
theorem stBytes:ST Tryz.prog 216 5 (.int .u8 0) 1 1:=ST.mk Tryz.underlying216 (by kernel_rfl) rfl (by omega) (by omega)
set_option maxHeartbeats 400000 in
theorem ref_Bytes (m:Nat) (hm:m < 18446744073709551616) (w:World) :
  Calls Tryz.prog 136 #[.int .u64 (m:Int)] w (Made 5 1 6 (bv (mb m)) w):=by
 go_enter Tryz.func136,Tryz.ntmps136
 go_wp2
 go_loopw [0,3,4] (fun q v i wr => ∃ k:Nat,k≤6∧i=.int .i64 k∧q=.int .u64 (m / 256 ^ k:Nat)∧wr.ownsRow w.heap.size 5 1 v k (bv (lastk m k))∧Below w.heap.size w wr) (fun _ _ i _ => 6 - (intOf i).toNat)
 case atStart => exact ⟨0,by omega,rfl,by simp,World.ownsRow_nil _ _ _ _,Below.refl _ _⟩
 case round =>
  obtain ⟨k,hk,rfl,rfl,hown,hbel⟩:=hrel
  have hsz:=hbel.size
  by_cases hlt:k < 6
  ·obtain ⟨q,hq⟩:∃ q,q=m / 256 ^ k:=⟨_,rfl⟩
   have hqb:q < 18446744073709551616:=by
    have:=Nat.div_le_self m (256 ^ k)
    omega
   have HQ:Hid (bv (lastk m (k + 1))=[.int .u8 ((q:Int) % 256)] ++ bv (lastk m k)):=by
    rw [hq]
    simp [Hid,lastk,bv]
   have HQ2:Hid (m / 256 ^ (k + 1)=q / 256):=by
    show _=_
    rw [Nat.pow_succ,← Nat.div_div_eq_div_mul,hq]
   rw [← hq]
   clear hq
   go_wp2_with (first
    | (at_builtin; refine wpList_app _ rfl stBytes (.tmp 12) (.tmp 13) rfl w.heap.size _ 1 [.int .u8 ((q:Int) % 256)] rfl (World.ownsRow_lit wr #[.int .u8 ((q:Int) % 256)] 1 hsz (by decide) rfl) wr.heap.size _ k (bv (lastk m k)) rfl ((Sl.of_own hown).alloc (Nat.le_refl _) _) (bv_one _) (by omega) (by simp; omega) ?_; intro v1 w1 hown1 hg1 hat1 hbel1))
   go_roundw
   case rel =>
    refine ⟨k + 1,by omega,by go_num,by rw [HQ2.out]; go_num,?_,?_⟩
    ·rw [HQ.out,Nat.add_comm]; exact hown1
    ·exact (hbel.alloc hsz _).trans hbel1
   case measure => simp [intOf]; omega
  ·have:k=6:=by omega
   subst this
   go_wp2
   go_ret
   exact ⟨_,rfl,by rw [← lastk_six]; exact hown,hbel⟩
theorem six {w:World} {B:Nat} {v:Value} {m:Nat} {e:TypeId} (h:w.ownsRow B e 1 v 6 (bv (mb m))):∃ g cap,v=.slice (some ⟨g,0,none⟩) 6 cap∧B≤g∧g < w.heap.size∧6≤cap ∧
  w.cell? ⟨g,0,none⟩=some (.int .u8 (m / 1099511627776 % 256:Nat))∧w.cell? ⟨g,1,none⟩=some (.int .u8 (m / 4294967296 % 256:Nat))∧w.cell? ⟨g,2,none⟩=some (.int .u8 (m / 16777216 % 256:Nat)) ∧
  w.cell? ⟨g,3,none⟩=some (.int .u8 (m / 65536 % 256:Nat))∧w.cell? ⟨g,4,none⟩=some (.int .u8 (m / 256 % 256:Nat))∧w.cell? ⟨g,5,none⟩=some (.int .u8 (m % 256:Nat)):=by
 rcases h.2 with ⟨_,h0⟩ | ⟨g,cap,cur,rfl,hb,hg,hc,_⟩
 ·omega
 ·refine ⟨g,cap,rfl,hb,(Array.getElem?_eq_some_iff.1 hg).1,hc,?_,?_,?_,?_,?_,?_⟩ <;> (rw [h.cellAt _ (by omega)]; simp [bv,mb])
set_option maxHeartbeats 1000000 in
theorem ref_Kind (m:Nat) (hm:m < 18446744073709551616) (w:World) :
  Calls Tryz.prog 122 #[.int .u64 (m:Int)] w (Says (.int .i64 (kindN m:Nat)) w):=by
 have hk:=reserved_iff m
 have hk2:kindN m=if m % 281474976710656=281474976710655 then 2 else if (m / 1099511627776 % 256=1∧m / 4294967296 % 256=128∧m / 16777216 % 256=194∧m / 65536 % 256=0∧m / 256 % 256=0∧m % 256 < 16) then 3 else m / 1099511627776 % 256 % 2:=by
  unfold kindN
  simp only [hk]
  split
  ·rfl
  ·split
   ·rfl
   ·omega
 have HK:=Lib.hid hk2
 clear hk hk2
 go_enter Tryz.func122,Tryz.ntmps122
 go_wp2_with fail
 refine (ref_Bytes m hm _).mono ?_
 rintro e w1 ⟨v,rfl,hown,hb⟩
 obtain ⟨g,cap,rfl,_,_,hc,c0,c1,c2,c3,c4,c5⟩:=six hown
 have HB:=Lib.hid hb
 clear hown hb
 generalize m / 1099511627776 % 256=x0 at *
 generalize m / 4294967296 % 256=x1 at *
 generalize m / 16777216 % 256=x2 at *
 generalize m / 65536 % 256=x3 at *
 generalize m / 256 % 256=x4 at *
 generalize m % 256=x5 at *
 go_wp2_with (go_at_call 121; refine (ref_Low m _).mono ?_; rintro e w2 ⟨rfl,rfl⟩)
 all_goals go_ret
 all_goals refine ⟨ret_i64 ?_,HB.out⟩
 all_goals rw [HK.out]
 all_goals (try simp only [beq_iff_eq,beq_eq_false_iff_ne,ne_eq] at *)
 all_goals first | (rw [if_pos (by omega)]; rfl) | (rw [if_neg (by omega),if_pos (by omega)]; rfl) | (rw [if_neg (by omega),if_neg (by omega)]; omega)
end
section
open Go.RowKit
theorem kp2 {w w':World} {b o0 o1:Nat} {v0 v1:Value} (h:w.cell? ⟨b,o0,none⟩=some v0∧w.cell? ⟨b,o1,none⟩=some v1) (hk:∀ p:Addr,p.block=b→w'.cell? p=w.cell? p) :
  w'.cell? ⟨b,o0,none⟩=some v0∧w'.cell? ⟨b,o1,none⟩=some v1 :=
 ⟨(hk _ rfl).trans h.1,(hk _ rfl).trans h.2⟩
theorem kp6 {w w':World} {b o0 o1 o2 o3 o4 o5:Nat} {v0 v1 v2 v3 v4 v5:Value} (h:w.cell? ⟨b,o0,none⟩=some v0∧w.cell? ⟨b,o1,none⟩=some v1∧w.cell? ⟨b,o2,none⟩=some v2∧w.cell? ⟨b,o3,none⟩=some v3∧w.cell? ⟨b,o4,none⟩=some v4∧w.cell? ⟨b,o5,none⟩=some v5) (hk:∀ p:Addr,p.block=b→w'.cell? p=w.cell? p) :
  w'.cell? ⟨b,o0,none⟩=some v0∧w'.cell? ⟨b,o1,none⟩=some v1∧w'.cell? ⟨b,o2,none⟩=some v2∧w'.cell? ⟨b,o3,none⟩=some v3∧w'.cell? ⟨b,o4,none⟩=some v4∧w'.cell? ⟨b,o5,none⟩=some v5 :=
 ⟨(hk _ rfl).trans h.1,(hk _ rfl).trans h.2.1,(hk _ rfl).trans h.2.2.1,(hk _ rfl).trans h.2.2.2.1,(hk _ rfl).trans h.2.2.2.2.1,(hk _ rfl).trans h.2.2.2.2.2⟩
end
section
open Go.RowKit
def fx (k:Nat) (x:Int):Nat:=(IntKind.u64.wrap x).toNat % k
theorem u64_nonneg (x:Int):0≤IntKind.u64.wrap x:=by rw [IntKind.wrap_u64]; omega
theorem fx_tmod (k:Nat) (x:Int):(IntKind.u64.wrap x).tmod (k:Int)=(fx k x:Int):=by
 rw [Int.tmod_eq_emod_of_nonneg (u64_nonneg x)]
 have h:=u64_nonneg x
 unfold fx
 generalize IntKind.u64.wrap x=y at *
 obtain ⟨m,rfl⟩:∃ m:Nat,y=m:=⟨y.toNat,by omega⟩
 simp
theorem fx_lt {k:Nat} (hk:0 < k) (x:Int):fx k x < k:=Nat.mod_lt _ hk
theorem fx_wrap {k:Nat} (hk:0 < k) (hk2:k≤5000) (x:Int):wrap64 ((IntKind.u64.wrap x).tmod (k:Int))=(fx k x:Int):=by
 rw [fx_tmod]
 have:=fx_lt hk x
 exact IntWalk.wrap64_in _ (by omega)
theorem fx_one {k:Nat} (hk:0 < k) (hk2:k≤5000) (x:Int) (c:Nat) (hc:c≤100000):wrap64 ((c:Int) + (fx k x:Int))=((c + fx k x:Nat):Int):=by
 have:=fx_lt hk x
 rw [IntWalk.wrap64_in _ (by omega)]
 omega
theorem fx_sum {k:Nat} (hk:0 < k) (hk2:k≤5000) (x:Int) (c:Nat) (hc:c≤100000):wrap64 ((c:Int) + wrap64 ((IntKind.u64.wrap x).tmod (k:Int)))=((c + fx k x:Nat):Int):=by
 rw [fx_wrap hk hk2,fx_one hk hk2 x c hc]
theorem fx_sum' {k:Nat} (hk:0 < k) (hk2:k≤5000) (x:Int) (c:Nat) (hc:c≤100000):IntKind.i64.wrap ((c:Int) + IntKind.i64.wrap ((IntKind.u64.wrap x).tmod (k:Int)))=((c + fx k x:Nat):Int):=by
 have:=fx_lt hk x
 rw [fx_tmod,IntWalk.i64_in (fx k x:Int) (by omega),IntWalk.i64_in _ (by omega)]
 omega
theorem fx_mod' {k:Nat} (hk:0 < k) (hk2:k≤5000) (x:Int):IntKind.i64.wrap ((IntKind.u64.wrap x).tmod (k:Int))=(fx k x:Int):=by
 have:=fx_lt hk x
 rw [fx_tmod,IntWalk.i64_in _ (by omega)]
def fixRl (l:List Rl) (i:Nat):Rl:=if i < l.length then ⟨((1 + fx 4094 (l.getD i rl0).pv:Nat):Int),((fx 3 (l.getD i rl0).ac:Nat):Int)⟩ else ⟨1,0⟩
def fixRs (l:List Rl) (k:Nat):List Rl:=(List.range k).map (fixRl l)
theorem fixRs_succ (l:List Rl) (k:Nat):rlc (fixRs l (k + 1))=rlc (fixRs l k) ++ [.int .i64 (fixRl l k).pv,.int .i64 (fixRl l k).ac]:=by
 unfold fixRs
 rw [List.range_succ,List.map_append,rlc_append]
 rfl
def vidF (l:List Vl):Nat→Nat
 | 0 => 0
 | k + 1 => vidF l k + 1 + fx 3 (l.getD k vl0).vid
theorem vidF_le (l:List Vl):∀ k,vidF l k≤3 * k
 | 0 => Nat.le_refl _
 | k + 1 => by
  have:=vidF_le l k
  have:=fx_lt (k:=3) (by omega) (l.getD k vl0).vid
  unfold vidF
  omega
theorem vid_sum (v f:Nat) (hv:v≤100) (hf:f < 3):wrap64 (wrap64 ((v:Int) + 1) + (f:Int))=((v + 1 + f:Nat):Int):=by
 rw [IntWalk.wrap64_in ((v:Int) + 1) (by omega),IntWalk.wrap64_in _ (by omega)]
 omega
theorem vid_sum' (v f:Nat) (hv:v≤100) (hf:f < 3):wrap64 ((v:Int) + 1 + (f:Int))=((v + 1 + f:Nat):Int):=by
 rw [IntWalk.wrap64_in _ (by omega)]
 omega
def lowB (s j:Nat):Nat:=s % 2 ^ j
theorem lowB_zero (s:Nat):lowB s 0=0:=by simp [lowB,Nat.mod_one]
theorem lowB_bit (s j i:Nat):(lowB s j).testBit i=(decide (i < j) && s.testBit i):=by
 unfold lowB
 exact Nat.testBit_mod_two_pow ..
theorem lowB_yes {s j:Nat} (h:s.testBit j=true):lowB s j ||| 2 ^ j=lowB s (j + 1):=by
 apply Nat.eq_of_testBit_eq
 intro i
 rw [Nat.testBit_or,lowB_bit,lowB_bit,Nat.testBit_two_pow]
 by_cases e:j=i
 ·subst e; simp [h]
 ·have:decide (i < j + 1)=decide (i < j):=decide_eq_decide.mpr (by omega)
  rw [this]
  simp [e]
theorem lowB_no {s j:Nat} (h:s.testBit j=false):lowB s j=lowB s (j + 1):=by
 apply Nat.eq_of_testBit_eq
 intro i
 rw [lowB_bit,lowB_bit]
 by_cases e:j=i
 ·subst e; simp [h]
 ·have:decide (i < j + 1)=decide (i < j):=decide_eq_decide.mpr (by omega)
  rw [this]
theorem lowB_lt (s:Nat) {j:Nat} (hj:j≤64):lowB s j < 18446744073709551616 :=
 Nat.lt_of_lt_of_le (Nat.mod_lt _ (Nat.two_pow_pos j)) (Nat.le_trans (Nat.pow_le_pow_right (by omega) hj) (by decide))
theorem lowB_all {s:Nat} (h:s < 18446744073709551616):lowB s 64=s:=Nat.mod_eq_of_lt h
def fixVl (all:Nat) (l:List Vl) (i:Nat):Vl:=⟨(vidF l (i + 1):Int),all &&& (l.getD i vl0).mem,all &&& (l.getD i vl0).mem &&& (l.getD i vl0).unt⟩
def fixVs (all:Nat) (l:List Vl) (k:Nat):List Vl:=(List.range k).map (fixVl all l)
theorem fixVs_succ (all:Nat) (l:List Vl) (k:Nat):vlc (fixVs all l (k + 1))=vlc (fixVs all l k) ++ [.int .i64 (vidF l (k + 1):Int),.int .u64 ((all &&& (l.getD k vl0).mem:Nat):Int),.int .u64 ((all &&& (l.getD k vl0).mem &&& (l.getD k vl0).unt:Nat):Int)]:=by
 unfold fixVs
 rw [List.range_succ,List.map_append,vlc_append]
 rfl
theorem fixRs_getD (l:List Rl) {k i:Nat} (h:i < k):(fixRs l k).getD i rl0=fixRl l i:=by
 unfold fixRs
 rw [List.getD_eq_getElem?_getD,List.getElem?_map,List.getElem?_range h]
 rfl
theorem fixVs_getD (all:Nat) (l:List Vl) {k i:Nat} (h:i < k):(fixVs all l k).getD i vl0=fixVl all l i:=by
 unfold fixVs
 rw [List.getD_eq_getElem?_getD,List.getElem?_map,List.getElem?_range h]
 rfl
theorem fixR_good (l:List Rl) (i:Nat):badR (fixRs l (i + 1)) i=false:=by
 unfold badR
 rw [fixRs_getD l (by omega)]
 unfold fixRl ruleB vidB
 split
 ·have:=fx_lt (k:=4094) (by omega) (l.getD i rl0).pv
  have:=fx_lt (k:=3) (by omega) (l.getD i rl0).ac
  simp only [Bool.not_eq_false',Bool.and_eq_true,decide_eq_true_eq]
  omega
 ·rfl
theorem fixRs_first (l:List Rl) (P:Nat):FirstBad (fixRs l P) P P:=by
 refine ⟨Nat.le_refl _,fun i hi => ?_,fun h => absurd h (by omega)⟩
 have:=fixR_good l i
 unfold badR at *
 rw [fixRs_getD l (by omega)] at this
 rw [fixRs_getD l hi]
 exact this
theorem within_and (a b:Nat):withinB (a &&& b) a=true:=by
 unfold withinB
 rw [withinK_iff]
 intro i _ h
 rw [Nat.testBit_and,Bool.and_eq_true] at h
 exact h.1
theorem fixVs_check (l:List Vl) {P k:Nat} (h2:2≤P) (hP:P≤64) (hk:k≤8):checkN (fixVs (allN P) l k) P k=0:=by
 refine check0 (by omega) (by omega) fun i hi => ?_
 unfold wrongAt
 rw [fixVs_getD _ l hi]
 have hv:=vidF_le l (i + 1)
 have h3:vidF l (i + 1)=vidF l i + 1 + fx 3 (l.getD i vl0).vid:=rfl
 rw [if_neg,if_neg,if_neg]
 ·have:withinB (fixVl (allN P) l i).unt (fixVl (allN P) l i).mem=true:=within_and _ _
  rw [this]; simp
 ·have:withinB (fixVl (allN P) l i).mem (allN P)=true:=within_and _ _
  rw [this]; simp
 ·rintro (h | ⟨h,h'⟩)
  ·unfold vidB fixVl at h
   simp at h
   omega
  ·rw [fixVs_getD _ l (by omega)] at h'
   have h4:i - 1 + 1=i:=by omega
   unfold fixVl at h'
   rw [h4] at h'
   simp at h'
   omega
theorem fixVs_ok (l:List Vl) (all:Nat) (ha:all < 18446744073709551616) (k:Nat) (hk:k≤8):∀ x ∈ fixVs all l k,x.ok:=by
 intro x hx
 obtain ⟨i,hi,rfl⟩:=List.mem_map.mp hx
 have hi:=List.mem_range.mp hi
 have hv:=vidF_le l (i + 1)
 have h1:all &&& (l.getD i vl0).mem < 18446744073709551616:=Nat.lt_of_le_of_lt Nat.and_le_left ha
 refine ⟨?_,h1,Nat.lt_of_le_of_lt Nat.and_le_left h1⟩
 unfold fixVl
 simp only
 omega
end
end Go.Proofs.YtfekhdgjgjodlaaGreat
