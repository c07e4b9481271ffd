/-
  Words and contracts that a statement's proof rests on (Kit, Mac). No statement is proved here.
-/
import Derived.Test.YtpcapdpglpgcbaaGreatProg
import Derived.Handy
import Derived.WalkLawsBesides
import Derived.Lib.Hide
import Derived.Deep.QuietTactic
import Derived.BigQuiet
import Derived.Deep.RegionHeld
import Derived.Laws.BitsAllLaws
import Derived.Test.YtpcapdpglpgcbaaGreatBase
import Derived.Test.YtpcapdpglpgcbaaGreatPlainVl
set_option linter.unusedVariables false
set_option linter.unusedSimpArgs false
namespace Go.Proofs.YtpcapdpglpgcbaaGreat
section
open Go.RowKit
theorem ret_u64 {a b:Int} (h:a=b):Ending.returned (.int .u64 a)=.returned (.int .u64 b):=by rw [h]
theorem ret_i64 {a b:Int} (h:a=b):Ending.returned (.int .i64 a)=.returned (.int .i64 b):=by rw [h]
theorem ret_bool {a b:Bool} (h:a=b):Ending.returned (.bool a)=.returned (.bool b):=by rw [h]
def Quiet (v:Value) (w:World) (e:Ending) (w':World):Prop:=e=.returned v∧∃ n,w'=w.drewN n
def Says (v:Value) (w:World) (e:Ending) (w':World):Prop:=e=.returned v∧Below w.heap.size w w'
theorem below_drewN {B:Nat} {a w:World} (h:Below B a w) (n:Nat):Below B a (w.drewN n):=⟨h.os,h.tape,h.output,h.size,h.block⟩
theorem bcell {W w1:World} {B:Nat} (hb:Below B W w1):(∀ b o,b < B→w1.cell? ⟨b,o,none⟩=W.cell? ⟨b,o,none⟩)∧(∀ b o,b < B→w1.frozen? ⟨b,o,none⟩=W.frozen? ⟨b,o,none⟩) :=
 ⟨fun b o h => hb.cell (p:=⟨b,o,none⟩) h,fun b o h => hb.frozen (p:=⟨b,o,none⟩) h⟩
theorem sqA {α:Type} {l:List α} {i:Nat} {a:α}:l.toArray.setIfInBounds i a=(l.set i a).toArray:=List.setIfInBounds_toArray ..
theorem sqB {α:Type} {x a:α} {l:List α}:(x :: l).set 0 a=a :: l:=List.set_cons_zero
theorem sqC {α:Type} {x a:α} {l:List α} {i:Nat}:(x :: l).set (i + 1) a=x :: l.set i a:=List.set_cons_succ
section
variable {P:Program} {md:Region.Mode} {ops:Array Oper} {Q:Exit→Act→World→Prop} {S:World→Prop} {fuel:Nat} {listed:Array Bool} {a:Act} {w:World} {d:Option Tmp} {o:Op} {t:TypeId} {p:String} {f:Array Edge} {g:Option (Nat × Bool)} {v:Value}
theorem tkR {listed':Array Bool} {a':Act} (i:Nat) (hi:ops[i]?=some ⟨d,o,t,p,f,g⟩) (h:wpAnyH P md ops Q S fuel listed' a' w) (hv:∀ w,S w→(execOp a.eval ⟨d,o,t,p,f,g⟩).run P w=.ok (.value v) w:=by (intro w hSw; (try dsimp only at hSw); go_simp; try with_reducible rfl)) (ha:a.put d v=a':=by ((try simp only [Act.put,sqA,sqB,sqC]); with_reducible rfl)) (hl:listed.setIfInBounds i true=listed':=by ((try simp only [sqA,sqB,sqC]); with_reducible rfl)) (hw:Region.wanted ⟨d,o,t,p,f,g⟩ (yielded ops a.tmps)=true:=by rfl) (hs:Region.noSelect ops=true:=by kernel_rfl) (hf:Region.free md ops listed i=true:=by kernel_rfl) (hr:(Region.ready md ops listed).contains i=true:=by kernel_rfl) (hQ:∀ c a w,Q (.panic c) (a.put d v) w→Q (.panic c) a w:=by exact fun _ _ _ h => h) (hS:S w:=by assumption):wpAnyH P md ops Q S (fuel + 1) listed a w:=by
 subst ha
 subst hl
 exact wpAnyH_take hi hs hf hr hQ (Or.inl ⟨hw,hv⟩) hS h
theorem skR {listed':Array Bool} {a':Act} (i:Nat) (hi:ops[i]?=some ⟨d,o,t,p,f,g⟩) (h:wpAnyH P md ops Q S fuel listed' a' w) (ha:a.put d undef=a':=by ((try simp only [Act.put,sqA,sqB,sqC]); with_reducible rfl)) (hl:listed.setIfInBounds i true=listed':=by ((try simp only [sqA,sqB,sqC]); with_reducible rfl)) (hw:Region.wanted ⟨d,o,t,p,f,g⟩ (yielded ops a.tmps)=false:=by rfl) (hs:Region.noSelect ops=true:=by kernel_rfl) (hf:Region.free md ops listed i=true:=by kernel_rfl) (hr:(Region.ready md ops listed).contains i=true:=by kernel_rfl) (hQ:∀ c a w,Q (.panic c) (a.put d undef) w→Q (.panic c) a w:=by exact fun _ _ _ h => h) (hS:S w:=by assumption):wpAnyH P md ops Q S (fuel + 1) listed a w:=by
 subst ha
 subst hl
 exact wpAnyH_take hi hs hf hr hQ (Or.inr ⟨hw,rfl⟩) hS h
theorem clR (i:Nat) (hi:ops[i]?=some ⟨d,o,t,p,f,g⟩)
  (h:∀ K':Act→World→Prop,Shut (∀ a w,S w→(S w→wpAnyH P md ops Q S fuel (listed.setIfInBounds i true) a w)→K' a w)→if Region.wanted ⟨d,o,t,p,f,g⟩ (yielded ops a.tmps)=true then Oper.wp P ⟨d,o,t,p,f,g⟩ a w K' Q else K' (a.put d undef) w) (hr:Region.ready md ops listed=[i]:=by kernel_rfl):wpAnyH P md ops Q S (fuel + 1) listed a w :=
 wpAnyH_ready hr (List.cons_ne_nil _ _) (AllReadyH.cons hi h AllReadyH.nil)
theorem acR {i:Nat} {rs:List Nat} (hi:ops[i]?=some ⟨d,o,t,p,f,g⟩)
  (h:∀ K':Act→World→Prop,Shut (∀ a w,S w→(S w→wpAnyH P md ops Q S fuel (listed.setIfInBounds i true) a w)→K' a w)→if Region.wanted ⟨d,o,t,p,f,g⟩ (yielded ops a.tmps)=true then Oper.wp P ⟨d,o,t,p,f,g⟩ a w K' Q else K' (a.put d undef) w) (hs:AllReadyH P md ops Q S fuel listed a w rs):AllReadyH P md ops Q S fuel listed a w (i :: rs):=AllReadyH.cons hi h hs
end
theorem box14 {w w0:World} {T:TypeId} {v0 v1 v2 v3 v4 v5 v6 v7 v8 v9 v10 v11 v12 v13:Value} (h:w0=w.alloc (.cells #[v0,v1,v2,v3,v4,v5,v6,v7,v8,v9,v10,v11,v12,v13] T)):∀ w',Below w0.heap.size w0 w'→w'.cell? ⟨w.heap.size,0,none⟩=some v0∧w'.cell? ⟨w.heap.size,1,none⟩=some v1∧w'.cell? ⟨w.heap.size,2,none⟩=some v2∧w'.cell? ⟨w.heap.size,3,none⟩=some v3∧w'.cell? ⟨w.heap.size,4,none⟩=some v4∧w'.cell? ⟨w.heap.size,5,none⟩=some v5∧w'.cell? ⟨w.heap.size,6,none⟩=some v6∧w'.cell? ⟨w.heap.size,7,none⟩=some v7∧w'.cell? ⟨w.heap.size,8,none⟩=some v8∧w'.cell? ⟨w.heap.size,9,none⟩=some v9∧w'.cell? ⟨w.heap.size,10,none⟩=some v10∧w'.cell? ⟨w.heap.size,11,none⟩=some v11∧w'.cell? ⟨w.heap.size,12,none⟩=some v12∧w'.cell? ⟨w.heap.size,13,none⟩=some v13:=fun w' hb => by
 rw [h] at hb
 refine ⟨?_,?_,?_,?_,?_,?_,?_,?_,?_,?_,?_,?_,?_,?_⟩ <;>
 ·rw [hb.cell (by show w.heap.size < _; simp)]
  simp [go_sem]
theorem box14b (w:World) (T:TypeId) (v0 v1 v2 v3 v4 v5 v6 v7 v8 v9 v10 v11 v12 v13:Value):∀ w',Below (w.heap.size + 1) (w.alloc (.cells #[v0,v1,v2,v3,v4,v5,v6,v7,v8,v9,v10,v11,v12,v13] T)) w'→w'.cell? ⟨w.heap.size,0,none⟩=some v0∧w'.cell? ⟨w.heap.size,1,none⟩=some v1∧w'.cell? ⟨w.heap.size,2,none⟩=some v2∧w'.cell? ⟨w.heap.size,3,none⟩=some v3∧w'.cell? ⟨w.heap.size,4,none⟩=some v4∧w'.cell? ⟨w.heap.size,5,none⟩=some v5∧w'.cell? ⟨w.heap.size,6,none⟩=some v6∧w'.cell? ⟨w.heap.size,7,none⟩=some v7∧w'.cell? ⟨w.heap.size,8,none⟩=some v8∧w'.cell? ⟨w.heap.size,9,none⟩=some v9∧w'.cell? ⟨w.heap.size,10,none⟩=some v10∧w'.cell? ⟨w.heap.size,11,none⟩=some v11∧w'.cell? ⟨w.heap.size,12,none⟩=some v12∧w'.cell? ⟨w.heap.size,13,none⟩=some v13:=fun w' hb => by
 refine ⟨?_,?_,?_,?_,?_,?_,?_,?_,?_,?_,?_,?_,?_,?_⟩ <;>
 ·rw [hb.cell (by show w.heap.size < _; omega)]
  simp [go_sem]
theorem low14 {w:World} {o:Obj} {C:World→Prop} (_:∀ w',Below (w.heap.size + 1) (w.alloc o) w'→C w'):∀ w',Below (w.heap.size + 1) (w.alloc o) w'→Below w.heap.size w w':=fun w' hb => ((Below.refl w.heap.size w).alloc (Nat.le_refl _) _).trans (hb.mono (by omega))
theorem up14 {w:World} {o:Obj} {C:World→Prop} (_:∀ w',Below (w.heap.size + 1) (w.alloc o) w'→C w'):∀ w' w'',Below (w.heap.size + 1) (w.alloc o) w'→Below w'.heap.size w' w''→Below (w.heap.size + 1) (w.alloc o) w'':=fun w' w'' h1 h2 => h1.trans (h2.mono (by have:=h1.size; simp at this; omega))
theorem self14 {w:World} {o:Obj} {C:World→Prop} (_:∀ w',Below (w.heap.size + 1) (w.alloc o) w'→C w'):Below (w.heap.size + 1) (w.alloc o) (w.alloc o):=Below.refl _ _
end
section
open Go.RowKit
set_option maxHeartbeats 400000 in
theorem mac_Right (m:Nat) (hm:m < 18446744073709551616) (w:World) :
  Calls Tryz.prog 136 #[.int .u64 (m:Int)] w fun e w' => e=.returned (.bool (decide (m < 281474976710656)))∧w=w':=by
 go_enter Tryz.func136,Tryz.ntmps136
 go_wp2
 go_ret
 exact ⟨ret_bool (by rw [decide_eq_decide]; omega),rfl⟩
theorem ref_Low (m:Nat) (w:World) :
  Calls Tryz.prog 132 #[.int .u64 (m:Int)] w fun e w' => e=.returned (.int .u64 (m % 281474976710656:Nat))∧w=w':=by
 go_enter Tryz.func132,Tryz.ntmps132
 go_wp2
 go_ret
 exact ⟨ret_u64 (by omega),rfl⟩
set_option maxHeartbeats 400000 in
theorem mac_Kind (m:Nat) (hm:m < 18446744073709551616) (w:World) :
  Calls Tryz.prog 137 #[.int .u64 (m:Int)] w fun e w' => e=.returned (.int .i64 (kindN m:Nat))∧w=w':=by
 have h1:bits .and .u64 (m:Int) 281474976710655=((m % 281474976710656:Nat):Int):=by
  have:=u64_and_nat m 281474976710655 hm (by omega)
  rw [and_low] at this
  exact this
 have hk:kindN m=if m % 281474976710656=281474976710655 then 2 else if m % 281474976710656 / 16 * 16=1652522221568 then 3 else m % 281474976710656 / 1099511627776 % 2:=by
  unfold kindN
  split
  ·rfl
  ·split
   ·rfl
   ·omega
 obtain ⟨L,hL⟩:∃ L,L=m % 281474976710656:=⟨_,rfl⟩
 have hLb:L < 281474976710656:=by omega
 rw [← hL] at h1 hk
 have HK:=Lib.hid hk
 clear hk hL
 have h2:bits .andNot .u64 (L:Int) 15=((L / 16 * 16:Nat):Int):=by
  have:=u64_andNot_nat L 15 (by omega) (by omega)
  rw [andNot_15 L (by omega)] at this
  exact this
 have h3:bits .and .u64 (L:Int) 1099511627776=((L / 1099511627776 % 2 * 1099511627776:Nat):Int):=by
  have:=u64_and_nat L 1099511627776 (by omega) (by omega)
  rw [and_40] at this
  exact this
 go_enter Tryz.func137,Tryz.ntmps137
 go_wp2
 all_goals go_ret
 all_goals refine ⟨ret_i64 ?_,rfl⟩
 all_goals rw [HK.out]
 all_goals simp only [beq_iff_eq,beq_eq_false_iff_ne,bne_iff_ne,bne_eq_false_iff_eq,ne_eq] at *
 ·rw [if_pos (by omega)]; rfl
 ·rw [if_neg (by omega),if_pos (by omega)]; rfl
 ·rw [if_neg (by omega),if_neg (by omega)]; omega
 ·rw [if_neg (by omega),if_neg (by omega)]; omega
def Made (e:TypeId) (size n:Nat) (xs:List Value) (w:World) (en:Ending) (w':World):Prop :=
 ∃ v,en=.returned v∧w'.ownsRow w.heap.size e size v n xs∧Below w.heap.size w w'
theorem stBytes:ST Tryz.prog 208 5 (.int .u8 0) 1 1:=ST.mk Tryz.underlying208 (by kernel_rfl) rfl (by omega) (by omega)
set_option maxHeartbeats 400000 in
theorem ref_Bytes (m:Nat) (hm:m < 18446744073709551616) (w:World) :
  Calls Tryz.prog 138 #[.int .u64 (m:Int)] w (Made 5 1 6 (bv (mb m)) w):=by
 go_enter Tryz.func138,Tryz.ntmps138
 go_wp2
 go_loopw [0,3,4] (fun q v i wr => ∃ k:Nat,k≤6∧i=.int .i64 k∧q=.int .u64 (m / 256 ^ k:Nat)∧wr.ownsRow w.heap.size 5 1 v k (bv (lastk m k))∧Below w.heap.size w wr) (fun _ _ i _ => 6 - (intOf i).toNat)
 case atStart => exact ⟨0,by omega,rfl,by simp,World.ownsRow_nil _ _ _ _,Below.refl _ _⟩
 case round =>
  obtain ⟨k,hk,rfl,rfl,hown,hbel⟩:=hrel
  have hsz:=hbel.size
  by_cases hlt:k < 6
  ·obtain ⟨q,hq⟩:∃ q,q=m / 256 ^ k:=⟨_,rfl⟩
   have hqb:q < 18446744073709551616:=by
    have:=Nat.div_le_self m (256 ^ k)
    omega
   have HQ:Hid (bv (lastk m (k + 1))=[.int .u8 ((q:Int) % 256)] ++ bv (lastk m k)):=by
    rw [hq]
    simp [Hid,lastk,bv]
   have HQ2:Hid (m / 256 ^ (k + 1)=q / 256):=by
    show _=_
    rw [Nat.pow_succ,← Nat.div_div_eq_div_mul,hq]
   rw [← hq]
   clear hq
   go_wp2_with (first
    | (at_builtin; refine wpList_app _ rfl stBytes (.tmp 12) (.tmp 13) rfl w.heap.size _ 1 [.int .u8 ((q:Int) % 256)] rfl (World.ownsRow_lit wr #[.int .u8 ((q:Int) % 256)] 1 hsz (by decide) rfl) wr.heap.size _ k (bv (lastk m k)) rfl ((Sl.of_own hown).alloc (Nat.le_refl _) _) (bv_one _) (by omega) (by simp; omega) ?_; intro v1 w1 hown1 hg1 hat1 hbel1))
   go_roundw
   case rel =>
    refine ⟨k + 1,by omega,by go_num,by rw [HQ2.out]; go_num,?_,?_⟩
    ·rw [HQ.out,Nat.add_comm]; exact hown1
    ·exact (hbel.alloc hsz _).trans hbel1
   case measure => simp [intOf]; omega
  ·have:k=6:=by omega
   subst this
   go_wp2
   go_ret
   exact ⟨_,rfl,by rw [← lastk_six]; exact hown,hbel⟩
theorem six {w:World} {B:Nat} {v:Value} {m:Nat} {e:TypeId} (h:w.ownsRow B e 1 v 6 (bv (mb m))):∃ g cap,v=.slice (some ⟨g,0,none⟩) 6 cap∧B≤g∧g < w.heap.size∧6≤cap ∧
  w.cell? ⟨g,0,none⟩=some (.int .u8 (m / 1099511627776 % 256:Nat))∧w.cell? ⟨g,1,none⟩=some (.int .u8 (m / 4294967296 % 256:Nat))∧w.cell? ⟨g,2,none⟩=some (.int .u8 (m / 16777216 % 256:Nat)) ∧
  w.cell? ⟨g,3,none⟩=some (.int .u8 (m / 65536 % 256:Nat))∧w.cell? ⟨g,4,none⟩=some (.int .u8 (m / 256 % 256:Nat))∧w.cell? ⟨g,5,none⟩=some (.int .u8 (m % 256:Nat)):=by
 rcases h.2 with ⟨_,h0⟩ | ⟨g,cap,cur,rfl,hb,hg,hc,_⟩
 ·omega
 ·refine ⟨g,cap,rfl,hb,(Array.getElem?_eq_some_iff.1 hg).1,hc,?_,?_,?_,?_,?_,?_⟩ <;> (rw [h.cellAt _ (by omega)]; simp [bv,mb])
set_option maxHeartbeats 1000000 in
theorem ref_Kind (m:Nat) (hm:m < 18446744073709551616) (w:World) :
  Calls Tryz.prog 133 #[.int .u64 (m:Int)] w (Says (.int .i64 (kindN m:Nat)) w):=by
 have hk:=reserved_iff m
 have hk2:kindN m=if m % 281474976710656=281474976710655 then 2 else if (m / 1099511627776 % 256=1∧m / 4294967296 % 256=128∧m / 16777216 % 256=194∧m / 65536 % 256=0∧m / 256 % 256=0∧m % 256 < 16) then 3 else m / 1099511627776 % 256 % 2:=by
  unfold kindN
  simp only [hk]
  split
  ·rfl
  ·split
   ·rfl
   ·omega
 have HK:=Lib.hid hk2
 clear hk hk2
 go_enter Tryz.func133,Tryz.ntmps133
 go_wp2_with fail
 refine (ref_Bytes m hm _).mono ?_
 rintro e w1 ⟨v,rfl,hown,hb⟩
 obtain ⟨g,cap,rfl,_,_,hc,c0,c1,c2,c3,c4,c5⟩:=six hown
 have HB:=Lib.hid hb
 clear hown hb
 generalize m / 1099511627776 % 256=x0 at *
 generalize m / 4294967296 % 256=x1 at *
 generalize m / 16777216 % 256=x2 at *
 generalize m / 65536 % 256=x3 at *
 generalize m / 256 % 256=x4 at *
 generalize m % 256=x5 at *
 go_wp2_with (go_at_call 132; refine (ref_Low m _).mono ?_; rintro e w2 ⟨rfl,rfl⟩)
 all_goals go_ret
 all_goals refine ⟨ret_i64 ?_,HB.out⟩
 all_goals rw [HK.out]
 all_goals (try simp only [beq_iff_eq,beq_eq_false_iff_ne,ne_eq] at *)
 all_goals first | (rw [if_pos (by omega)]; rfl) | (rw [if_neg (by omega),if_pos (by omega)]; rfl) | (rw [if_neg (by omega),if_neg (by omega)]; omega)
end
end Go.Proofs.YtpcapdpglpgcbaaGreat
