/-
  Words and contracts that a statement's proof rests on (HiB). No statement is proved here.
-/
import Derived.BigGuard
import Derived.Test.YtfekhdgjgjodlaaHiA
set_option linter.unusedVariables false
set_option linter.unusedSimpArgs false
namespace Go.Proofs.Ytfekhdgjgjodlaa
open Go.RowKit
set_option maxHeartbeats 1600000 in
theorem hist_isOver (x:Ent) (w:World):Calls Try.prog 38 #[x.val] w (Says (.bool (x.fin != 0)) w):=by
 obtain ⟨who,beg,mar,fin,⟨kd,po,tt,vi,sx,kv,km,me,un,nw,li,sh,bu,id⟩,ans⟩:=x
 unfold Ent.val Ent.cells
 simp only []
 go_enter Try.func38,Try.ntmps38
 go_upto_region 1 with fail
 obtain ⟨w0,hw0⟩:∃ w0,w0=w.alloc (.cells #[.int .i64 who,.int .i64 beg,.int .i64 mar,.int .i64 fin,.int .i64 kd,.int .i64 po,.int .i64 tt,.int .i64 vi,.int .i64 sx,.int .i64 kv,.int .u64 (km:Nat),.int .u64 (me:Nat),.int .u64 (un:Nat),.int .u32 (nw:Nat),.int .u32 (li:Nat),.int .i64 sh,.int .i64 bu,.int .i64 id,.int .i64 ans] 45):=⟨_,rfl⟩
 have HX:=Lib.hid (box19 hw0)
 have HW0:=Lib.hid (box_below hw0)
 rw [← hw0]
 have HRG:=Lib.hid (rng19 hw0)
 obtain ⟨c0,c1,c2,c3,c4,c5,c6,c7,c8,c9,c10,c11,c12,c13,c14,c15,c16,c17,c18⟩:=HX.out _ (Below.refl _ _)
 clear hw0
 go_wp2
 go_ret
 exact ⟨by first | rfl | (simp; done),HW0.out.1⟩
set_option maxRecDepth 20000 in
set_option maxHeartbeats 3200000 in
theorem hist_isAt (x:Ent) (t:Int) (w:World):Calls Try.prog 39 #[x.val,.int .i64 t] w (Says (.bool (!(x.fin != 0) || decide (t < x.fin))) w):=by
 have HO:=Lib.hid fun W => hist_isOver x W
 obtain ⟨who,beg,mar,fin,⟨kd,po,tt,vi,sx,kv,km,me,un,nw,li,sh,bu,id⟩,ans⟩:=x
 unfold Ent.val Ent.cells at HO ⊢
 simp only [] at HO ⊢
 have HB:Hid (∀ w',Below w.heap.size w w'→Below w.heap.size w w'):=fun _ h => h
 by_cases h1:fin=0
 ·as_aux_lemma =>
  have d0:(fin != 0)=false:=by simpa using h1
  rw [d0] at HO ⊢
  have hq:(!false || decide (t < fin))=true:=rfl
  rw [hq]
  clear h1 hq
  go_enter Try.func39,Try.ntmps39
  go_upto_region 1 with fail
  obtain ⟨w0,hw0⟩:∃ w0,w0=w.alloc (.cells #[.int .i64 who,.int .i64 beg,.int .i64 mar,.int .i64 fin,.int .i64 kd,.int .i64 po,.int .i64 tt,.int .i64 vi,.int .i64 sx,.int .i64 kv,.int .u64 (km:Nat),.int .u64 (me:Nat),.int .u64 (un:Nat),.int .u32 (nw:Nat),.int .u32 (li:Nat),.int .i64 sh,.int .i64 bu,.int .i64 id,.int .i64 ans] 45):=⟨_,rfl⟩
  have HX:=Lib.hid (box19 hw0)
  have HW0:=Lib.hid (box_below hw0)
  rw [← hw0]
  have HRG:=Lib.hid (rng19 hw0)
  obtain ⟨c0,c1,c2,c3,c4,c5,c6,c7,c8,c9,c10,c11,c12,c13,c14,c15,c16,c17,c18⟩:=HX.out _ (Below.refl _ _)
  clear hw0
  go_wp2_with (first
   | go_big_skip
   | (refine wpList_load_mid (by rfl) 45 _ (by rfl) w.heap.size 0 (by rfl) [.int .i64 who,.int .i64 beg,.int .i64 mar,.int .i64 fin,.int .i64 kd,.int .i64 po,.int .i64 tt,.int .i64 vi,.int .i64 sx,.int .i64 kv,.int .u64 (km:Nat),.int .u64 (me:Nat),.int .u64 (un:Nat),.int .u32 (nw:Nat),.int .u32 (li:Nat),.int .i64 sh,.int .i64 bu,.int .i64 id,.int .i64 ans] _ HRG.out Try.underlying45 (by rfl) (by kernel_rfl) ?_; clear HRG)
   | (go_at_call 38; (with_reducible refine Calls.mono (HO.out _) ?_); rintro e w1 ⟨rfl,hb1⟩; (have HB1:Hid (Below w.heap.size w w1):=HW0.out.1.trans (hb1.mono HW0.out.1.size)); clear hb1)
   | fail)
  go_ret
  exact ⟨by first | rfl | (simp; done),HB1.out⟩
 ·as_aux_lemma =>
  have d0:(fin != 0)=true:=by simpa using h1
  rw [d0] at HO ⊢
  obtain ⟨q,hq⟩:∃ q,q=decide (t < fin):=⟨_,rfl⟩
  rw [← hq]
  have hq2:(!true || q)=q:=by simp
  rw [hq2]
  clear hq2
  have hq':decide (fin > t)=q:=hq.symm
  clear hq h1
  go_enter Try.func39,Try.ntmps39
  go_upto_region 1 with fail
  obtain ⟨w0,hw0⟩:∃ w0,w0=w.alloc (.cells #[.int .i64 who,.int .i64 beg,.int .i64 mar,.int .i64 fin,.int .i64 kd,.int .i64 po,.int .i64 tt,.int .i64 vi,.int .i64 sx,.int .i64 kv,.int .u64 (km:Nat),.int .u64 (me:Nat),.int .u64 (un:Nat),.int .u32 (nw:Nat),.int .u32 (li:Nat),.int .i64 sh,.int .i64 bu,.int .i64 id,.int .i64 ans] 45):=⟨_,rfl⟩
  have HX:=Lib.hid (box19 hw0)
  have HW0:=Lib.hid (box_below hw0)
  rw [← hw0]
  have HRG:=Lib.hid (rng19 hw0)
  obtain ⟨c0,c1,c2,c3,c4,c5,c6,c7,c8,c9,c10,c11,c12,c13,c14,c15,c16,c17,c18⟩:=HX.out _ (Below.refl _ _)
  clear hw0
  go_wp2_with (first
   | go_big_skip
   | (refine wpList_load_mid (by rfl) 45 _ (by rfl) w.heap.size 0 (by rfl) [.int .i64 who,.int .i64 beg,.int .i64 mar,.int .i64 fin,.int .i64 kd,.int .i64 po,.int .i64 tt,.int .i64 vi,.int .i64 sx,.int .i64 kv,.int .u64 (km:Nat),.int .u64 (me:Nat),.int .u64 (un:Nat),.int .u32 (nw:Nat),.int .u32 (li:Nat),.int .i64 sh,.int .i64 bu,.int .i64 id,.int .i64 ans] _ HRG.out Try.underlying45 (by rfl) (by kernel_rfl) ?_; clear HRG)
   | (go_at_call 38; (with_reducible refine Calls.mono (HO.out _) ?_); rintro e w1 ⟨rfl,hb1⟩; (have HB1:Hid (Below w.heap.size w w1):=HW0.out.1.trans (hb1.mono HW0.out.1.size)); (obtain ⟨_,_,e2,e3,_⟩:=HX.out _ hb1); clear hb1)
   | fail)
  go_ret
  exact ⟨by first | rfl | (simp; done),HB1.out⟩
theorem mis_split (a b c d f g k u:Bool):(a=true) ∨ (a=false∧b=true) ∨ (a=false∧b=false∧c=true) ∨ (a=false∧b=false∧c=false∧d=true∧f=true) ∨ (a=false∧b=false∧c=false∧d=false∧u=false) ∨ (a=false∧b=false∧c=false∧d=true∧f=false∧u=false) ∨ (a=false∧b=false∧c=false∧d=false∧u=true∧g=true) ∨ (a=false∧b=false∧c=false∧d=true∧f=false∧u=true∧g=true) ∨ (a=false∧b=false∧c=false∧d=false∧u=true∧g=false∧k=true) ∨ (a=false∧b=false∧c=false∧d=true∧f=false∧u=true∧g=false∧k=true) ∨ (a=false∧b=false∧c=false∧d=false∧u=true∧g=false∧k=false) ∨ (a=false∧b=false∧c=false∧d=true∧f=false∧u=true∧g=false∧k=false):=by
 cases a <;> cases b <;> cases c <;> cases d <;> cases f <;> cases g <;> cases k <;> cases u <;> simp
set_option maxRecDepth 20000 in
set_option maxHeartbeats 6400000 in
theorem hist_isMistimed (x:Ent) (w:World):Calls Try.prog 27 #[x.val] w (Says (.bool (misT x)) w):=by
 have HO:=Lib.hid fun W => hist_isOver x W
 unfold misT
 obtain ⟨who,beg,mar,fin,⟨kd,po,tt,vi,sx,kv,km,me,un,nw,li,sh,bu,id⟩,ans⟩:=x
 unfold Ent.val Ent.cells at HO ⊢
 simp only [] at HO ⊢
 have hk:∀ (a b c d e f g:Bool),(decide (beg < 0)=a)→decide (mar < 0)=b→decide (fin < 0)=c→decide (0 < mar)=d→decide (mar≤beg)=e→decide (mar=0)=f→decide (fin < mar)=g→decide (fin ≠ 0)=(fin != 0):=by
  intros
  by_cases h:fin=0 <;> simp [h]
 have hk2:=hk _ _ _ _ _ _ _ rfl rfl rfl rfl rfl rfl rfl
 rw [hk2]
 clear hk hk2
 obtain ⟨a,ha⟩:∃ a,a=decide (beg < 0):=⟨_,rfl⟩
 obtain ⟨b,hb⟩:∃ a,a=decide (mar < 0):=⟨_,rfl⟩
 obtain ⟨c,hc⟩:∃ a,a=decide (fin < 0):=⟨_,rfl⟩
 obtain ⟨d,hd⟩:∃ a,a=decide (0 < mar):=⟨_,rfl⟩
 obtain ⟨f,hf⟩:∃ a,a=decide (mar≤beg):=⟨_,rfl⟩
 obtain ⟨g,hg⟩:∃ a,a=decide (mar=0):=⟨_,rfl⟩
 obtain ⟨k,hk⟩:∃ a,a=decide (fin < mar):=⟨_,rfl⟩
 obtain ⟨u,hu⟩:∃ a,a=(fin != 0):=⟨_,rfl⟩
 rw [← ha,← hb,← hc,← hd,← hf,← hg,← hk,← hu]
 rw [← hu] at HO
 have ea:=ha.symm
 have eb:=hb.symm
 have ec:=hc.symm
 have ed:decide (mar > 0)=d:=hd.symm
 have ef:=hf.symm
 have eg:(mar == 0)=g:=hg.symm
 have ek:=hk.symm
 clear ha hb hc hd hf hg hk hu
 obtain ⟨z,hz⟩:∃ z,z=((a || b || c) || ((d && f) || (u && (g || k)))):=⟨_,rfl⟩
 rw [← hz]
 rcases mis_split a b c d f g k u with rfl | ⟨rfl,rfl⟩ | ⟨rfl,rfl,rfl⟩ | ⟨rfl,rfl,rfl,rfl,rfl⟩ | ⟨rfl,rfl,rfl,rfl,rfl⟩ | ⟨rfl,rfl,rfl,rfl,rfl,rfl⟩ | ⟨rfl,rfl,rfl,rfl,rfl,rfl⟩ | ⟨rfl,rfl,rfl,rfl,rfl,rfl,rfl⟩ | ⟨rfl,rfl,rfl,rfl,rfl,rfl,rfl⟩ | ⟨rfl,rfl,rfl,rfl,rfl,rfl,rfl,rfl⟩ | ⟨rfl,rfl,rfl,rfl,rfl,rfl,rfl⟩ | ⟨rfl,rfl,rfl,rfl,rfl,rfl,rfl,rfl⟩
 all_goals simp at hz; subst hz
 all_goals as_aux_lemma =>
  go_enter Try.func27,Try.ntmps27
  go_upto_region 1 with fail
  obtain ⟨w0,hw0⟩:∃ w0,w0=w.alloc (.cells #[.int .i64 who,.int .i64 beg,.int .i64 mar,.int .i64 fin,.int .i64 kd,.int .i64 po,.int .i64 tt,.int .i64 vi,.int .i64 sx,.int .i64 kv,.int .u64 (km:Nat),.int .u64 (me:Nat),.int .u64 (un:Nat),.int .u32 (nw:Nat),.int .u32 (li:Nat),.int .i64 sh,.int .i64 bu,.int .i64 id,.int .i64 ans] 45):=⟨_,rfl⟩
  have HX:=Lib.hid (box19 hw0)
  have HW0:=Lib.hid (box_below hw0)
  rw [← hw0]
  have HRG:=Lib.hid (rng19 hw0)
  obtain ⟨c0,c1,c2,c3,c4,c5,c6,c7,c8,c9,c10,c11,c12,c13,c14,c15,c16,c17,c18⟩:=HX.out _ (Below.refl _ _)
  clear hw0
  go_wp2_with (first
   | go_big_skip
   | (refine wpList_load_mid (by rfl) 45 _ (by rfl) w.heap.size 0 (by rfl) [.int .i64 who,.int .i64 beg,.int .i64 mar,.int .i64 fin,.int .i64 kd,.int .i64 po,.int .i64 tt,.int .i64 vi,.int .i64 sx,.int .i64 kv,.int .u64 (km:Nat),.int .u64 (me:Nat),.int .u64 (un:Nat),.int .u32 (nw:Nat),.int .u32 (li:Nat),.int .i64 sh,.int .i64 bu,.int .i64 id,.int .i64 ans] _ HRG.out Try.underlying45 (by rfl) (by kernel_rfl) ?_; clear HRG)
   | (go_at_call 38; (with_reducible refine Calls.mono (HO.out _) ?_); rintro e w1 ⟨rfl,hb1⟩; (have HB1:Hid (Below w.heap.size w w1):=HW0.out.1.trans (hb1.mono HW0.out.1.size)); (obtain ⟨_,_,e2,e3,_⟩:=HX.out _ hb1); clear hb1)
   | fail)
  go_ret
  exact ⟨by first | rfl | (simp; done),by first | exact HB1.out | exact HW0.out.1⟩
end Go.Proofs.Ytfekhdgjgjodlaa
