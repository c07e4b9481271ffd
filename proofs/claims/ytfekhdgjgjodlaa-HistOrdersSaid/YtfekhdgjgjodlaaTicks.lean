/-
  Words and contracts that a statement's proof rests on (Kit, Ticks, PlainSv). No statement is proved here.
-/
import Derived.Test.YtfekhdgjgjodlaaProg
import Derived.Handy
import Derived.WalkLawsBesides
import Derived.Lib.Hide
import Derived.Deep.QuietTactic
import Derived.BigQuiet
import Derived.Deep.RegionHeld
import Derived.Test.YtfekhdgjgjodlaaBase
import Derived.Test.YtfekhdgjgjodlaaPlainSu
set_option linter.unusedVariables false
set_option linter.unusedSimpArgs false
namespace Go.Proofs.Ytfekhdgjgjodlaa
section
open Go.RowKit
theorem ret_u64 {a b:Int} (h:a=b):Ending.returned (.int .u64 a)=.returned (.int .u64 b):=by rw [h]
theorem ret_i64 {a b:Int} (h:a=b):Ending.returned (.int .i64 a)=.returned (.int .i64 b):=by rw [h]
theorem ret_bool {a b:Bool} (h:a=b):Ending.returned (.bool a)=.returned (.bool b):=by rw [h]
def Says (v:Value) (w:World) (e:Ending) (w':World):Prop:=e=.returned v∧Below w.heap.size w w'
theorem below_drewN {B:Nat} {a w:World} (h:Below B a w) (n:Nat):Below B a (w.drewN n):=⟨h.os,h.tape,h.output,h.size,h.block⟩
theorem bcell {W w1:World} {B:Nat} (hb:Below B W w1):(∀ b o,b < B→w1.cell? ⟨b,o,none⟩=W.cell? ⟨b,o,none⟩)∧(∀ b o,b < B→w1.frozen? ⟨b,o,none⟩=W.frozen? ⟨b,o,none⟩) :=
 ⟨fun b o h => hb.cell (p:=⟨b,o,none⟩) h,fun b o h => hb.frozen (p:=⟨b,o,none⟩) h⟩
theorem sqA {α:Type} {l:List α} {i:Nat} {a:α}:l.toArray.setIfInBounds i a=(l.set i a).toArray:=List.setIfInBounds_toArray ..
theorem sqB {α:Type} {x a:α} {l:List α}:(x :: l).set 0 a=a :: l:=List.set_cons_zero
theorem sqC {α:Type} {x a:α} {l:List α} {i:Nat}:(x :: l).set (i + 1) a=x :: l.set i a:=List.set_cons_succ
section
variable {P:Program} {md:Region.Mode} {ops:Array Oper} {Q:Exit→Act→World→Prop} {S:World→Prop} {fuel:Nat} {listed:Array Bool} {a:Act} {w:World} {d:Option Tmp} {o:Op} {t:TypeId} {p:String} {f:Array Edge} {g:Option (Nat × Bool)} {v:Value}
theorem tkR {listed':Array Bool} {a':Act} (i:Nat) (hi:ops[i]?=some ⟨d,o,t,p,f,g⟩) (h:wpAnyH P md ops Q S fuel listed' a' w) (hv:∀ w,S w→(execOp a.eval ⟨d,o,t,p,f,g⟩).run P w=.ok (.value v) w:=by (intro w hSw; (try dsimp only at hSw); go_simp; try with_reducible rfl)) (ha:a.put d v=a':=by ((try simp only [Act.put,sqA,sqB,sqC]); with_reducible rfl)) (hl:listed.setIfInBounds i true=listed':=by ((try simp only [sqA,sqB,sqC]); with_reducible rfl)) (hw:Region.wanted ⟨d,o,t,p,f,g⟩ (yielded ops a.tmps)=true:=by rfl) (hs:Region.noSelect ops=true:=by kernel_rfl) (hf:Region.free md ops listed i=true:=by kernel_rfl) (hr:(Region.ready md ops listed).contains i=true:=by kernel_rfl) (hQ:∀ c a w,Q (.panic c) (a.put d v) w→Q (.panic c) a w:=by exact fun _ _ _ h => h) (hS:S w:=by assumption):wpAnyH P md ops Q S (fuel + 1) listed a w:=by
 subst ha
 subst hl
 exact wpAnyH_take hi hs hf hr hQ (Or.inl ⟨hw,hv⟩) hS h
theorem skR {listed':Array Bool} {a':Act} (i:Nat) (hi:ops[i]?=some ⟨d,o,t,p,f,g⟩) (h:wpAnyH P md ops Q S fuel listed' a' w) (ha:a.put d undef=a':=by ((try simp only [Act.put,sqA,sqB,sqC]); with_reducible rfl)) (hl:listed.setIfInBounds i true=listed':=by ((try simp only [sqA,sqB,sqC]); with_reducible rfl)) (hw:Region.wanted ⟨d,o,t,p,f,g⟩ (yielded ops a.tmps)=false:=by rfl) (hs:Region.noSelect ops=true:=by kernel_rfl) (hf:Region.free md ops listed i=true:=by kernel_rfl) (hr:(Region.ready md ops listed).contains i=true:=by kernel_rfl) (hQ:∀ c a w,Q (.panic c) (a.put d undef) w→Q (.panic c) a w:=by exact fun _ _ _ h => h) (hS:S w:=by assumption):wpAnyH P md ops Q S (fuel + 1) listed a w:=by
 subst ha
 subst hl
 exact wpAnyH_take hi hs hf hr hQ (Or.inr ⟨hw,rfl⟩) hS h
theorem clR (i:Nat) (hi:ops[i]?=some ⟨d,o,t,p,f,g⟩)
  (h:∀ K':Act→World→Prop,Shut (∀ a w,S w→(S w→wpAnyH P md ops Q S fuel (listed.setIfInBounds i true) a w)→K' a w)→if Region.wanted ⟨d,o,t,p,f,g⟩ (yielded ops a.tmps)=true then Oper.wp P ⟨d,o,t,p,f,g⟩ a w K' Q else K' (a.put d undef) w) (hr:Region.ready md ops listed=[i]:=by kernel_rfl):wpAnyH P md ops Q S (fuel + 1) listed a w :=
 wpAnyH_ready hr (List.cons_ne_nil _ _) (AllReadyH.cons hi h AllReadyH.nil)
theorem acR {i:Nat} {rs:List Nat} (hi:ops[i]?=some ⟨d,o,t,p,f,g⟩)
  (h:∀ K':Act→World→Prop,Shut (∀ a w,S w→(S w→wpAnyH P md ops Q S fuel (listed.setIfInBounds i true) a w)→K' a w)→if Region.wanted ⟨d,o,t,p,f,g⟩ (yielded ops a.tmps)=true then Oper.wp P ⟨d,o,t,p,f,g⟩ a w K' Q else K' (a.put d undef) w) (hs:AllReadyH P md ops Q S fuel listed a w rs):AllReadyH P md ops Q S fuel listed a w (i :: rs):=AllReadyH.cons hi h hs
end
theorem box14b (w:World) (T:TypeId) (v0 v1 v2 v3 v4 v5 v6 v7 v8 v9 v10 v11 v12 v13:Value):∀ w',Below (w.heap.size + 1) (w.alloc (.cells #[v0,v1,v2,v3,v4,v5,v6,v7,v8,v9,v10,v11,v12,v13] T)) w'→w'.cell? ⟨w.heap.size,0,none⟩=some v0∧w'.cell? ⟨w.heap.size,1,none⟩=some v1∧w'.cell? ⟨w.heap.size,2,none⟩=some v2∧w'.cell? ⟨w.heap.size,3,none⟩=some v3∧w'.cell? ⟨w.heap.size,4,none⟩=some v4∧w'.cell? ⟨w.heap.size,5,none⟩=some v5∧w'.cell? ⟨w.heap.size,6,none⟩=some v6∧w'.cell? ⟨w.heap.size,7,none⟩=some v7∧w'.cell? ⟨w.heap.size,8,none⟩=some v8∧w'.cell? ⟨w.heap.size,9,none⟩=some v9∧w'.cell? ⟨w.heap.size,10,none⟩=some v10∧w'.cell? ⟨w.heap.size,11,none⟩=some v11∧w'.cell? ⟨w.heap.size,12,none⟩=some v12∧w'.cell? ⟨w.heap.size,13,none⟩=some v13:=fun w' hb => by
 refine ⟨?_,?_,?_,?_,?_,?_,?_,?_,?_,?_,?_,?_,?_,?_⟩ <;>
 ·rw [hb.cell (by show w.heap.size < _; omega)]
  simp [go_sem]
theorem low14 {w:World} {o:Obj} {C:World→Prop} (_:∀ w',Below (w.heap.size + 1) (w.alloc o) w'→C w'):∀ w',Below (w.heap.size + 1) (w.alloc o) w'→Below w.heap.size w w':=fun w' hb => ((Below.refl w.heap.size w).alloc (Nat.le_refl _) _).trans (hb.mono (by omega))
theorem up14 {w:World} {o:Obj} {C:World→Prop} (_:∀ w',Below (w.heap.size + 1) (w.alloc o) w'→C w'):∀ w' w'',Below (w.heap.size + 1) (w.alloc o) w'→Below w'.heap.size w' w''→Below (w.heap.size + 1) (w.alloc o) w'':=fun w' w'' h1 h2 => h1.trans (h2.mono (by have:=h1.size; simp at this; omega))
theorem self14 {w:World} {o:Obj} {C:World→Prop} (_:∀ w',Below (w.heap.size + 1) (w.alloc o) w'→C w'):Below (w.heap.size + 1) (w.alloc o) (w.alloc o):=Below.refl _ _
end
section
open Go.RowKit
def distN (now t:Nat):Nat:=(now + 4294967296 - t) % 4294967296
def ageN (now t:Nat):Nat:=if distN now t < 2147483648 then distN now t else 0
def oldB (now t lim:Nat):Bool:=decide (lim < ageN now t)
theorem distN_lt (now t:Nat):distN now t < 4294967296:=Nat.mod_lt _ (by omega)
theorem ageN_in {now t:Nat} (h:distN now t < 2147483648):ageN now t=distN now t:=if_pos h
theorem ageN_out {now t:Nat} (h:¬ distN now t < 2147483648):ageN now t=0:=if_neg h
theorem wrap_dist {now t:Nat} (h:now < 4294967296) (ht:t < 4294967296):IntKind.u32.wrap ((now:Int) - (t:Int))=((distN now t:Nat):Int):=by
 rw [IntKind.wrap_u32]; unfold distN; omega
set_option maxHeartbeats 400000 in
theorem ticks_Age (now t:Nat) (hn:now < 4294967296) (ht:t < 4294967296) (w:World) :
  Calls Try.prog 96 #[.int .u32 (now:Int),.int .u32 (t:Int)] w fun e w' => e=.returned (.int .u32 (ageN now t:Nat))∧w=w':=by
 obtain ⟨x,hd⟩:∃ x,distN now t=x:=⟨_,rfl⟩
 have hw:=wrap_dist hn ht
 have hx:=distN_lt now t
 have hi:=@ageN_in now t
 have ho:=@ageN_out now t
 rw [hd] at hw hx hi ho
 clear hd
 by_cases h:¬ 2147483648≤(x:Int)
 ·rw [hi (by omega)]
  have hx':¬ 4294967296≤(x:Int):=by omega
  clear hi ho hx
  go_enter Try.func96,Try.ntmps96
  go_wp2
  go_ret
  exact ⟨rfl,rfl⟩
 ·rw [ho (by omega)]
  have hx':¬ 4294967296≤(x:Int):=by omega
  replace h:=Decidable.not_not.1 h
  clear hi ho hx
  go_enter Try.func96,Try.ntmps96
  go_wp2
  go_ret
  exact ⟨rfl,rfl⟩
set_option maxHeartbeats 400000 in
theorem ticks_Old (now t lim:Nat) (hn:now < 4294967296) (ht:t < 4294967296) (w:World) :
  Calls Try.prog 86 #[.int .u32 (now:Int),.int .u32 (t:Int),.int .u32 (lim:Int)] w fun e w' => e=.returned (.bool (oldB now t lim))∧w=w':=by
 have hA:=Lib.hid fun W => ticks_Age now t hn ht W
 unfold oldB
 generalize ageN now t=x at *
 go_enter Try.func86,Try.ntmps86
 go_wp2_with fail
 refine (hA.out _).mono ?_
 rintro e w1 ⟨rfl,rfl⟩
 go_wp2
 go_ret
 exact ⟨ret_bool (by simp),rfl⟩
end
section
section
variable {n:Nat} {key:Nat→Int}
theorem blk_round {f f1 f2:Nat→Nat} {a b k B:Nat} (ha:a=k * B) (hb:b=a + B) (hbn:b≤n) (hk:BlK key f1 n B k) (ht:StK key f1 0 n) (hi:ImK f f1 0 n) (h:MgK key f1 f2 a b) :
  b=(k + 1) * B∧BlK key f2 n B (k + 1)∧StK key f2 0 n∧ImK f f2 0 n:=by
 subst ha
 refine ⟨by rw [hb,Nat.add_mul,Nat.one_mul],hk.step ?_,h.whole ht (Nat.zero_le _) hbn,hi.trans (h.im.mono (Nat.zero_le _) hbn)⟩
 rw [show min (k * B + B) n=b by omega]
 exact h
theorem blk_last {f f1 f2:Nat→Nat} {a k B:Nat} (ha:a=k * B) (han:a≤n) (hb:n < a + B) (hk:BlK key f1 n B k) (ht:StK key f1 0 n) (hi:ImK f f1 0 n) (h:MgK key f1 f2 a n) :
  (∀ k,BlK key f2 n B k)∧StK key f2 0 n∧ImK f f2 0 n:=by
 subst ha
 refine ⟨fun k2 x hx => ?_,h.whole ht (Nat.zero_le _) (Nat.le_refl _),hi.trans (h.im.mono (Nat.zero_le _) (Nat.le_refl _))⟩
 have hs:BlK key f2 n B (k + 1):=hk.step (by rw [show min (k * B + B) n=n by omega]; exact h)
 rcases Nat.lt_or_ge x (k + 1) with c | c
 ·exact hs x c
 ·have h3:=Nat.mul_le_mul_right B c
  rw [Nat.add_mul,Nat.one_mul] at h3
  intro p q p1 p2 p3
  omega
theorem blk_all {f:Nat→Nat} {B:Nat} (h:∀ k,BlK key f n B k) (hB:n≤B):SdK key f 0 n:=by
 have h1:=h 1 0 (by omega)
 rw [Nat.zero_mul,show min (0 + B) n=n by omega] at h1
 exact h1
theorem pr_pre {g:Nat→Nat} {a k B:Nat} (ha:a=k * (2 * B)) (h:∀ x,2 * k≤x→SdK key g (x * B) (min (x * B + B) n)):SdK key g a (min (a + B) n)∧SdK key g (a + B) (min (a + 2 * B) n):=by
 have e1:2 * k * B=k * (2 * B):=by rw [Nat.mul_comm 2 k,Nat.mul_assoc]
 have h1:=h (2 * k) (Nat.le_refl _)
 have h2:=h (2 * k + 1) (by omega)
 rw [Nat.add_mul,Nat.one_mul] at h2
 rw [e1,← ha] at h1 h2
 refine ⟨h1,?_⟩
 rw [show a + 2 * B=a + B + B by omega]
 exact h2
theorem pr_rest {g g2:Nat→Nat} {a b k B:Nat} (ha:a=k * (2 * B)) (hb:b≤a + 2 * B) (h:∀ x,2 * k≤x→SdK key g (x * B) (min (x * B + B) n)) (hm:MgK key g g2 a b):∀ x,2 * (k + 1)≤x→SdK key g2 (x * B) (min (x * B + B) n):=fun x hx => by
 refine hm.beside (h x (by omega)) (.inr ?_)
 have h3:=Nat.mul_le_mul_right B (show 2 * k + 2≤x by omega)
 rw [Nat.add_mul,Nat.mul_comm 2 k,Nat.mul_assoc,← ha] at h3
 omega
end
end
end Go.Proofs.Ytfekhdgjgjodlaa
