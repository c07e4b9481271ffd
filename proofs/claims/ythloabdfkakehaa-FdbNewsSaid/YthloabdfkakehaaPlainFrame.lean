/-
  Words and contracts that a statement's proof rests on (Plain, Kit, Keep, PlainFrame, Mac, OpenWh). No statement is proved here.
-/
import Derived.Laws.BitsAllLaws
import Derived.Below
import Derived.Test.YthloabdfkakehaaProg
import Derived.Handy
import Derived.WalkLawsBesides
import Derived.Lib.Hide
import Derived.Deep.QuietTactic
import Derived.BigQuiet
import Derived.Deep.RegionHeld
import Derived.Test.YthloabdfkakehaaBase
import Derived.Test.YthloabdfkakehaaOpen
set_option linter.unusedVariables false
set_option linter.unusedSimpArgs false
namespace Go.Proofs.Ythloabdfkakehaa
section
theorem and_low (m:Nat):m &&& 281474976710655=m % 281474976710656:=by
 have:=Nat.and_two_pow_sub_one_eq_mod m 48
 simpa using this
theorem andNot_15 (a:Nat) (ha:a < 18446744073709551616):a &&& (18446744073709551615 - 15)=a / 16 * 16:=by
 have e1:(18446744073709551615 - 15:Nat)=(2 ^ 60 - 1) <<< 4:=by decide
 have e2:a / 16 * 16=(a >>> 4) <<< 4:=by rw [Nat.shiftLeft_eq,Nat.shiftRight_eq_div_pow]
 rw [e1,e2]
 apply Nat.eq_of_testBit_eq
 intro i
 simp only [Nat.testBit_and,Nat.testBit_shiftLeft,Nat.testBit_shiftRight,Nat.testBit_two_pow_sub_one]
 by_cases h4:i ≥ 4
 ·by_cases h64:i < 64
  ·have:i - 4 < 60:=by omega
   have e:4 + (i - 4)=i:=by omega
   simp [h4,this,e]
  ·have:a.testBit i=false:=Nat.testBit_lt_two_pow (Nat.lt_of_lt_of_le ha (by
    have:2 ^ 64≤2 ^ i:=Nat.pow_le_pow_right (by omega) (by omega)
    simpa using this))
   have e:4 + (i - 4)=i:=by omega
   simp [h4,this,e]
 ·simp [h4]
theorem and_bit (a k:Nat):a &&& 2 ^ k=(a / 2 ^ k % 2) * 2 ^ k:=by
 have hc:a.testBit k=decide (a / 2 ^ k % 2=1):=Nat.testBit_eq_decide_div_mod_eq ..
 have h2:a / 2 ^ k % 2=0 ∨ a / 2 ^ k % 2=1:=by omega
 apply Nat.eq_of_testBit_eq
 intro i
 rw [Nat.testBit_and,Nat.testBit_two_pow]
 by_cases hi:k=i
 ·subst hi
  rcases h2 with h | h <;> simp [hc,h]
 ·rcases h2 with h | h <;> simp [h,hi]
theorem and_40 (a:Nat):a &&& 1099511627776=(a / 1099511627776 % 2) * 1099511627776:=by
 have:=and_bit a 40
 simpa using this
def kindN (m:Nat):Nat :=
 if m % 281474976710656=281474976710655 then 2 else if m % 281474976710656 / 16 * 16=1652522221568 then 3 else m / 1099511627776 % 2
end
section
open Go.RowKit
theorem ret_u64 {a b:Int} (h:a=b):Ending.returned (.int .u64 a)=.returned (.int .u64 b):=by rw [h]
theorem ret_i64 {a b:Int} (h:a=b):Ending.returned (.int .i64 a)=.returned (.int .i64 b):=by rw [h]
theorem ret_bool {a b:Bool} (h:a=b):Ending.returned (.bool a)=.returned (.bool b):=by rw [h]
def Says (v:Value) (w:World) (e:Ending) (w':World):Prop:=e=.returned v∧Below w.heap.size w w'
theorem below_drewN {B:Nat} {a w:World} (h:Below B a w) (n:Nat):Below B a (w.drewN n):=⟨h.os,h.tape,h.output,h.size,h.block⟩
theorem bcell {W w1:World} {B:Nat} (hb:Below B W w1):(∀ b o,b < B→w1.cell? ⟨b,o,none⟩=W.cell? ⟨b,o,none⟩)∧(∀ b o,b < B→w1.frozen? ⟨b,o,none⟩=W.frozen? ⟨b,o,none⟩) :=
 ⟨fun b o h => hb.cell (p:=⟨b,o,none⟩) h,fun b o h => hb.frozen (p:=⟨b,o,none⟩) h⟩
theorem sqA {α:Type} {l:List α} {i:Nat} {a:α}:l.toArray.setIfInBounds i a=(l.set i a).toArray:=List.setIfInBounds_toArray ..
theorem sqB {α:Type} {x a:α} {l:List α}:(x :: l).set 0 a=a :: l:=List.set_cons_zero
theorem sqC {α:Type} {x a:α} {l:List α} {i:Nat}:(x :: l).set (i + 1) a=x :: l.set i a:=List.set_cons_succ
section
variable {P:Program} {md:Region.Mode} {ops:Array Oper} {Q:Exit→Act→World→Prop} {S:World→Prop} {fuel:Nat} {listed:Array Bool} {a:Act} {w:World} {d:Option Tmp} {o:Op} {t:TypeId} {p:String} {f:Array Edge} {g:Option (Nat × Bool)} {v:Value}
theorem tkR {listed':Array Bool} {a':Act} (i:Nat) (hi:ops[i]?=some ⟨d,o,t,p,f,g⟩) (h:wpAnyH P md ops Q S fuel listed' a' w) (hv:∀ w,S w→(execOp a.eval ⟨d,o,t,p,f,g⟩).run P w=.ok (.value v) w:=by (intro w hSw; (try dsimp only at hSw); go_simp; try with_reducible rfl)) (ha:a.put d v=a':=by ((try simp only [Act.put,sqA,sqB,sqC]); with_reducible rfl)) (hl:listed.setIfInBounds i true=listed':=by ((try simp only [sqA,sqB,sqC]); with_reducible rfl)) (hw:Region.wanted ⟨d,o,t,p,f,g⟩ (yielded ops a.tmps)=true:=by rfl) (hs:Region.noSelect ops=true:=by kernel_rfl) (hf:Region.free md ops listed i=true:=by kernel_rfl) (hr:(Region.ready md ops listed).contains i=true:=by kernel_rfl) (hQ:∀ c a w,Q (.panic c) (a.put d v) w→Q (.panic c) a w:=by exact fun _ _ _ h => h) (hS:S w:=by assumption):wpAnyH P md ops Q S (fuel + 1) listed a w:=by
 subst ha
 subst hl
 exact wpAnyH_take hi hs hf hr hQ (Or.inl ⟨hw,hv⟩) hS h
theorem skR {listed':Array Bool} {a':Act} (i:Nat) (hi:ops[i]?=some ⟨d,o,t,p,f,g⟩) (h:wpAnyH P md ops Q S fuel listed' a' w) (ha:a.put d undef=a':=by ((try simp only [Act.put,sqA,sqB,sqC]); with_reducible rfl)) (hl:listed.setIfInBounds i true=listed':=by ((try simp only [sqA,sqB,sqC]); with_reducible rfl)) (hw:Region.wanted ⟨d,o,t,p,f,g⟩ (yielded ops a.tmps)=false:=by rfl) (hs:Region.noSelect ops=true:=by kernel_rfl) (hf:Region.free md ops listed i=true:=by kernel_rfl) (hr:(Region.ready md ops listed).contains i=true:=by kernel_rfl) (hQ:∀ c a w,Q (.panic c) (a.put d undef) w→Q (.panic c) a w:=by exact fun _ _ _ h => h) (hS:S w:=by assumption):wpAnyH P md ops Q S (fuel + 1) listed a w:=by
 subst ha
 subst hl
 exact wpAnyH_take hi hs hf hr hQ (Or.inr ⟨hw,rfl⟩) hS h
theorem clR (i:Nat) (hi:ops[i]?=some ⟨d,o,t,p,f,g⟩)
  (h:∀ K':Act→World→Prop,Shut (∀ a w,S w→(S w→wpAnyH P md ops Q S fuel (listed.setIfInBounds i true) a w)→K' a w)→if Region.wanted ⟨d,o,t,p,f,g⟩ (yielded ops a.tmps)=true then Oper.wp P ⟨d,o,t,p,f,g⟩ a w K' Q else K' (a.put d undef) w) (hr:Region.ready md ops listed=[i]:=by kernel_rfl):wpAnyH P md ops Q S (fuel + 1) listed a w :=
 wpAnyH_ready hr (List.cons_ne_nil _ _) (AllReadyH.cons hi h AllReadyH.nil)
theorem acR {i:Nat} {rs:List Nat} (hi:ops[i]?=some ⟨d,o,t,p,f,g⟩)
  (h:∀ K':Act→World→Prop,Shut (∀ a w,S w→(S w→wpAnyH P md ops Q S fuel (listed.setIfInBounds i true) a w)→K' a w)→if Region.wanted ⟨d,o,t,p,f,g⟩ (yielded ops a.tmps)=true then Oper.wp P ⟨d,o,t,p,f,g⟩ a w K' Q else K' (a.put d undef) w) (hs:AllReadyH P md ops Q S fuel listed a w rs):AllReadyH P md ops Q S fuel listed a w (i :: rs):=AllReadyH.cons hi h hs
end
end
section
open Go.RowKit
theorem kp6 {w w':World} {b o0 o1 o2 o3 o4 o5:Nat} {v0 v1 v2 v3 v4 v5:Value} (h:w.cell? ⟨b,o0,none⟩=some v0∧w.cell? ⟨b,o1,none⟩=some v1∧w.cell? ⟨b,o2,none⟩=some v2∧w.cell? ⟨b,o3,none⟩=some v3∧w.cell? ⟨b,o4,none⟩=some v4∧w.cell? ⟨b,o5,none⟩=some v5) (hk:∀ p:Addr,p.block=b→w'.cell? p=w.cell? p) :
  w'.cell? ⟨b,o0,none⟩=some v0∧w'.cell? ⟨b,o1,none⟩=some v1∧w'.cell? ⟨b,o2,none⟩=some v2∧w'.cell? ⟨b,o3,none⟩=some v3∧w'.cell? ⟨b,o4,none⟩=some v4∧w'.cell? ⟨b,o5,none⟩=some v5 :=
 ⟨(hk _ rfl).trans h.1,(hk _ rfl).trans h.2.1,(hk _ rfl).trans h.2.2.1,(hk _ rfl).trans h.2.2.2.1,(hk _ rfl).trans h.2.2.2.2.1,(hk _ rfl).trans h.2.2.2.2.2⟩
end
section
structure Fr where
 dst:Nat
 src:Nat
 tagged:Bool
 tci:Nat
 typ:Nat
 load:List Nat
def Fr.zero:Fr:=⟨0,0,false,0,0,[]⟩
end
section
open Go.RowKit
set_option maxHeartbeats 400000 in
theorem mac_Right (m:Nat) (hm:m < 18446744073709551616) (w:World) :
  Calls Try.prog 102 #[.int .u64 (m:Int)] w fun e w' => e=.returned (.bool (decide (m < 281474976710656)))∧w=w':=by
 go_enter Try.func102,Try.ntmps102
 go_wp2
 go_ret
 exact ⟨ret_bool (by rw [decide_eq_decide]; omega),rfl⟩
set_option maxHeartbeats 400000 in
theorem mac_Kind (m:Nat) (hm:m < 18446744073709551616) (w:World) :
  Calls Try.prog 103 #[.int .u64 (m:Int)] w fun e w' => e=.returned (.int .i64 (kindN m:Nat))∧w=w':=by
 have h1:bits .and .u64 (m:Int) 281474976710655=((m % 281474976710656:Nat):Int):=by
  have:=u64_and_nat m 281474976710655 hm (by omega)
  rw [and_low] at this
  exact this
 have hk:kindN m=if m % 281474976710656=281474976710655 then 2 else if m % 281474976710656 / 16 * 16=1652522221568 then 3 else m % 281474976710656 / 1099511627776 % 2:=by
  unfold kindN
  split
  ·rfl
  ·split
   ·rfl
   ·omega
 obtain ⟨L,hL⟩:∃ L,L=m % 281474976710656:=⟨_,rfl⟩
 have hLb:L < 281474976710656:=by omega
 rw [← hL] at h1 hk
 have HK:=Lib.hid hk
 clear hk hL
 have h2:bits .andNot .u64 (L:Int) 15=((L / 16 * 16:Nat):Int):=by
  have:=u64_andNot_nat L 15 (by omega) (by omega)
  rw [andNot_15 L (by omega)] at this
  exact this
 have h3:bits .and .u64 (L:Int) 1099511627776=((L / 1099511627776 % 2 * 1099511627776:Nat):Int):=by
  have:=u64_and_nat L 1099511627776 (by omega) (by omega)
  rw [and_40] at this
  exact this
 go_enter Try.func103,Try.ntmps103
 go_wp2
 all_goals go_ret
 all_goals refine ⟨ret_i64 ?_,rfl⟩
 all_goals rw [HK.out]
 all_goals simp only [beq_iff_eq,beq_eq_false_iff_ne,bne_iff_ne,bne_eq_false_iff_eq,ne_eq] at *
 ·rw [if_pos (by omega)]; rfl
 ·rw [if_neg (by omega),if_pos (by omega)]; rfl
 ·rw [if_neg (by omega),if_neg (by omega)]; omega
 ·rw [if_neg (by omega),if_neg (by omega)]; omega
end
section
open Go.ChangeShapes Go.WideShapes Go.RowKit Go.Deep
section
variable {H:Type} {enc:TypeId × Value→H} {P:Program} {w:World} {held:Bool} {base:Nat} {spare:Nat→Bool}
theorem open_whole {r:Reach} {b0:Nat} {t t0:TypeId} {fs:Array Field} {v:Value} {d:DataW H} {p:List MemPlace} (hs:P.underlying t=some (.struct fs)) (hl:leaves P 8 t=some [t0,t0,t0,t0]) (hn:P.cellsOf t=4) (h0:P.underlying t0=some (.int .i64))
  (hv:Value.okWide P w r b0 t v) (h:DataW.Trod enc P w base spare held t v d p) :
  ∃ a b c e:Int,v=.agg #[.int .i64 a,.int .i64 b,.int .i64 c,.int .i64 e]:=by
 obtain ⟨l,rfl,hlen,hf⟩:=open_flat hs hl hn hv h
 obtain ⟨u0,e0,g0⟩:=hf 0 t0 rfl
 obtain ⟨u1,e1,g1⟩:=hf 1 t0 rfl
 obtain ⟨u2,e2,g2⟩:=hf 2 t0 rfl
 obtain ⟨u3,e3,g3⟩:=hf 3 t0 rfl
 obtain ⟨a,rfl,_⟩:=g0.i64 h0
 obtain ⟨b,rfl,_⟩:=g1.i64 h0
 obtain ⟨c,rfl,_⟩:=g2.i64 h0
 obtain ⟨e,rfl,_⟩:=g3.i64 h0
 match l,hlen with
 | [x,y,z,q],_ =>
  simp at e0 e1 e2 e3
  subst e0 e1 e2 e3
  exact ⟨a,b,c,e,rfl⟩
end
end
end Go.Proofs.Ythloabdfkakehaa
