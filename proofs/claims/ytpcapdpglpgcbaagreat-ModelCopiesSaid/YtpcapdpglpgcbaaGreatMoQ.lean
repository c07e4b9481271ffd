/-
  Words and contracts that a statement's proof rests on (MoY, MoQ). No statement is proved here.
-/
import Derived.Deep.RegionLaw
import Derived.Test.YtpcapdpglpgcbaaGreatBkC
import Derived.Test.YtpcapdpglpgcbaaGreatMoF
import Derived.Test.YtpcapdpglpgcbaaGreatMoX
import Derived.Test.YtpcapdpglpgcbaaGreatBuN
import Derived.Test.YtpcapdpglpgcbaaGreatBkH
set_option linter.unusedVariables false
set_option linter.unusedSimpArgs false
namespace Go.Proofs.YtpcapdpglpgcbaaGreat
section
open Go.RowKit
theorem within_fx {k:Nat} (hk:0 < k) (hk2:k≤5000) (x:Int):withinI ((1 + fx k x:Nat):Int) (k:Int)=true:=by
 have:=fx_lt hk x
 unfold withinI
 simp only [Bool.and_eq_true,decide_eq_true_eq]
 omega
theorem fix_good (lr:List Rl) (lv:List Vl) (P0 a b c t r:Int) (P S B n T G nv:Nat) (hP:P=2 + fx 7 P0) (hT:T=1 + fx 8 t) (hG:G=1 + fx 64 r) (hS:S=1 + fx 8 a) (hB:B=1 + fx 16 b) (hn:n=1 + fx 8 c) :
  planK (checkN (fixVs (allN P) lv (min nv 8)) P (min nv 8)) (decide ((P:Int)=P)) (!decide (P < P)) (rightS S B n && (withinI T 8 && withinI G 64))=0:=by
 have h0:=fx_lt (k:=7) (by omega) P0
 have h1:=fx_lt (k:=8) (by omega) a
 have h2:=fx_lt (k:=16) (by omega) b
 have h3:=fx_lt (k:=8) (by omega) c
 rw [fixVs_check lv (P:=P) (by omega) (by omega) (by omega)]
 have e1:rightS (S:Nat) (B:Nat) (n:Nat)=true:=by
  unfold rightS inB
  simp
  omega
 have e2:withinI (T:Nat) 8=true:=by rw [hT]; exact within_fx (k:=8) (by omega) (by omega) t
 have e3:withinI (G:Nat) 64=true:=by rw [hG]; exact within_fx (k:=64) (by omega) (by omega) r
 rw [e1,e2,e3]
 simp [planK]
def toldVs:List Vl:=fixVs (allN 2) [⟨0,2,0⟩] 1
theorem told_send1:sendK toldVs 1 4 1 1=3:=by decide
theorem told_send0:sendK toldVs 1 0 0 1=0:=by decide
theorem told_lit (w:World) (e:TypeId):Sl (w.alloc (.cells #[.int .i64 0,.int .u64 2,.int .u64 0] e)) (w.heap.size + 1) 3 (.slice (some ⟨w.heap.size,0,none⟩) 1 1) 1 (vlc [⟨0,2,0⟩]) :=
 Sl.litN w #[.int .i64 0,.int .u64 2,.int .u64 0] e 1 3 rfl (by decide)
theorem told_nil (w:World) (B:Nat):Sl w B 2 (.slice none 0 0) 0 (rlc []):=⟨rfl,none,0,rfl,Nat.le_refl _,Nat.zero_le _,fun h => absurd h (by omega)⟩
theorem told_fix (w:World) (e:TypeId):Calls Tryz.prog 5 #[planV 0 (.slice none 0 0) (.slice (some ⟨w.heap.size,0,none⟩) 1 1) 0 0 0 0 0 0 0] (w.alloc (.cells #[.int .i64 0,.int .u64 2,.int .u64 0] e)) fun e' w' => ∃ Ar cr Av cv,e'=.returned (planV ((2:Nat):Int) (.slice Ar 2 cr) (.slice Av 1 cv) ((1:Nat):Int) ((1:Nat):Int) ((1:Nat):Int) ((1:Nat):Int) ((1:Nat):Int) 0 0)∧Sl w' w'.heap.size 2 (.slice Ar 2 cr) 2 (rlc (fixRs [] 2))∧Sl w' w'.heap.size 3 (.slice Av 1 cv) 1 (vlc toldVs)∧Below w.heap.size w w':=by
 refine (ref17_Fix (told_nil _ _) (told_lit w e) (by intro x hx; simp at hx; subst hx; unfold Vl.ok; decide) (by rw [World.size_alloc]; exact Nat.le_refl _) 0 0 0 0 0 0 0 0 2 1 1 1 1 1 (by decide) (by decide) (by decide) (by decide) (by decide) (by decide)).mono ?_
 rintro e' w' ⟨ur,uv,rfl,h1,h2,hb⟩
 obtain ⟨Ar,cr,rfl,_,_⟩:=(Sl.of_own h1).form
 obtain ⟨Av,cv,rfl,_,_⟩:=(Sl.of_own h2).form
 refine ⟨Ar,cr,Av,cv,rfl,Sl.of_own h1,Sl.of_own h2,((Below.refl _ _).alloc (Nat.le_refl _) _).trans (hb.mono (by rw [World.size_alloc]; omega))⟩
theorem told_to (W:World) (B:Nat) (Ar:Option Addr) (cr:Nat) (Av:Option Addr) (cv:Nat) (h1:Sl W B 2 (.slice Ar 2 cr) 2 (rlc (fixRs [] 2))) (h2:Sl W B 3 (.slice Av 1 cv) 1 (vlc toldVs)) (hB:B≤W.heap.size) :
  Calls Tryz.prog 7 #[.agg #[.int .i64 2,.slice Ar 2 cr,.slice Av 1 cv,.int .i64 1,.int .i64 1,.int .i64 1,.int .i64 1,.int .i64 1,.int .u32 0,.int .u32 0]] W fun e w' => ∃ Ar' cr' Av' cv',e=.returned (.agg #[.int .i64 2,.slice Ar' 2 cr',.slice Av' 1 cv',.int .i64 1,.int .i64 1,.int .i64 1,.int .i64 1,.int .i64 1,.int .u32 0,.int .u32 0])∧Sl w' w'.heap.size 2 (.slice Ar' 2 cr') 2 (rlc (fixRs [] 2))∧Sl w' w'.heap.size 3 (.slice Av' 1 cv') 1 (vlc toldVs)∧Below W.heap.size W w':=by
 refine (law17_To h1 h2 hB (by omega) (by omega) 2 1 1 1 1 1 0 0).mono ?_
 rintro e w' ⟨ur,uv,rfl,h1,h2,hb⟩
 obtain ⟨Ar',cr',rfl,_,_⟩:=(Sl.of_own h1).form
 obtain ⟨Av',cv',rfl,_,_⟩:=(Sl.of_own h2).form
 exact ⟨Ar',cr',Av',cv',rfl,Sl.of_own h1,Sl.of_own h2,hb⟩
theorem told_new (W:World) (B:Nat) (Ar:Option Addr) (cr:Nat) (Av:Option Addr) (cv:Nat) (h1:Sl W B 2 (.slice Ar 2 cr) 2 (rlc (fixRs [] 2))) (h2:Sl W B 3 (.slice Av 1 cv) 1 (vlc toldVs)) (hB:B≤W.heap.size) :
  Calls Tryz.prog 6 #[.agg #[.int .i64 2,.slice Ar 2 cr,.slice Av 1 cv,.int .i64 1,.int .i64 1,.int .i64 1,.int .i64 1,.int .i64 1,.int .u32 0,.int .u32 0]] W fun e w' => ∃ (A S1 Q bp:Nat) (uv:Value) (G:Nat→Value),e=.returned (.tuple #[.pointer (some ⟨A,0,none⟩),.int .i64 0])∧MdAt w' W.heap.size A S1 Q uv (.pointer (some ⟨bp,0,none⟩)) 2 1 1 toldVs (fun _ => (0,0)) G∧Below W.heap.size W w':=by
 refine (model_New h1 h2 (fixVs_ok _ _ (allN_lt _) 1 (by omega)) hB (fixRs_first [] 2) 2 1 1 1 1 1 0 0 (by omega) (by omega) (by omega) (by omega) (by omega) (fix_good [] [⟨0,2,0⟩] 0 0 0 0 0 0 2 1 1 1 1 1 1 (by decide) (by decide) (by decide) (by decide) (by decide) (by decide))).mono ?_
 rintro e w' ⟨A,S1,Q,bp,bq,hN,uv,R,G,rfl,hm,hrest⟩
 obtain ⟨_,_,_,_,_,_,_,_,hb⟩:=hrest
 exact ⟨A,S1,Q,bp,uv,G,rfl,hm,hb⟩
theorem toldVs_ok:∀ x ∈ toldVs,x.ok:=fixVs_ok _ _ (allN_lt _) 1 (by omega)
set_option maxRecDepth 20000 in
set_option maxHeartbeats 3200000 in
theorem law17_told (w:World):Calls Tryz.prog 8 #[] w (Says (.bool true) w):=by
 have hfx:=fun W e => told_fix W e
 unfold planV at hfx
 have HFX:=Lib.hid hfx
 have HTO:=Lib.hid told_to
 have HNW:=Lib.hid told_new
 clear hfx
 go_enter Tryz.func8,Tryz.ntmps8
 go_wp2_with (first
  | (go_at_call 5; (refine Calls.mono (HFX.out _ _) ?_); rintro e w1 ⟨Ar,cr,Av,cv,rfl,h1,h2,hb⟩; (have H1:=Lib.hid h1); (have H2:=Lib.hid h2); (have HB1:=Lib.hid hb); (have hz1:=hb.size); clear h1 h2 hb)
  | (go_at_call 7; (refine Calls.mono (HTO.out _ w1.heap.size _ _ _ _ (H1.out.below ((Below.refl _ _).alloc (Nat.le_refl _) _)) (H2.out.below ((Below.refl _ _).alloc (Nat.le_refl _) _)) (by rw [World.size_alloc]; omega)) ?_); rintro e w3 ⟨Ar',cr',Av',cv',rfl,h1,h2,hb⟩; (have H3:=Lib.hid h1); (have H4:=Lib.hid h2); (have HB3:Hid (Below w.heap.size w w3):=(HB1.out.alloc hz1 _).trans (hb.mono (by rw [World.size_alloc]; omega))); (have hz3:=HB3.out.size); clear h1 h2 hb)
  | (go_at_call 6; (refine Calls.mono (HNW.out _ w3.heap.size _ _ _ _ H3.out H4.out (Nat.le_refl _)) ?_); rintro e w4 ⟨A,S1,Q,bp,uv,G,rfl,hm,hb⟩; (have HM:=Lib.hid hm); (have HB4:Hid (Below w.heap.size w w4):=HB3.out.trans (hb.mono hz3)); (have hz4:=HB4.out.size); clear hm hb)
  | fail)
 refine (model_DoSet HM.out (by omega) 1 (by omega) 4 (by decide) 0 0 0 0 0 0 0 0 0 0 0).mono ?_
 rintro e w5 ⟨rfl,hm5,hbt⟩
 have HM5:=Lib.hid hm5
 have HB5:Hid (Below w.heap.size w w5):=HB4.out.trans (hbt.below.mono (by have:=HM.out.ls; omega))
 have hz5:=HB5.out.size
 clear hm5 hbt
 go_wp2_with fail
 refine (model_DoSend HM5.out toldVs_ok 1 (by omega) 0 1 0 0 0 0 0 0 0 0 0 0).mono ?_
 rintro e w6 ⟨rfl,hb⟩
 have HM6:=Lib.hid (HM5.out.call hb)
 have HB6:Hid (Below w.heap.size w w6):=HB5.out.trans (hb.mono hz5)
 have hz6:=HB6.out.size
 have hk1:sendK toldVs 1 (updS (fun _ => (0,0)) 1 4 ((((fun _ => (0,0)):Nat→Int × Nat) 1).2 + 1) 1).1 1 1=3:=told_send1
 rw [hk1]
 clear hb hk1
 go_wp2_with fail
 refine (model_DoSend HM6.out toldVs_ok 0 (by omega) 0 1 0 0 0 0 0 0 0 0 0 0).mono ?_
 rintro e w7 ⟨rfl,hb⟩
 have HM7:=Lib.hid (HM6.out.call hb)
 have HB7:Hid (Below w.heap.size w w7):=HB6.out.trans (hb.mono hz6)
 have hz7:=HB7.out.size
 have hk0:sendK toldVs 1 (updS (fun _ => (0,0)) 1 4 ((0 + 1) % 4294967296) 0).1 0 1=0:=told_send0
 rw [hk0]
 clear hb hk0
 go_wp2_with fail
 refine (model_Do13 HM7.out 0 0 0 0 0 0 0 0 0 0 0 0 0).mono ?_
 rintro e w8 ⟨rfl,hb⟩
 have HB8:Hid (Below w.heap.size w w8):=HB7.out.trans (hb.mono hz7)
 clear hb
 go_wp2
 go_ret
 exact ⟨by first | rfl | (simp; done),HB8.out⟩
end
section
open Go.RowKit
theorem infoInt:(Tryz.prog.info? 3).map (fun i => (i.zero,i.size,i.bytes))=some (some (.int .i64 0),1,8):=by kernel_rfl
def overL:List Value→Nat→List Value→List Value
 | xs,_,[] => xs
 | xs,o,v :: vs => overL (xs.set o v) (o + 1) vs
theorem overL_low:∀ (vs xs:List Value) (o j:Nat),j < o→(overL xs o vs)[j]?=xs[j]?
 | [],xs,o,j,_ => rfl
 | v :: vs,xs,o,j,h => by
  unfold overL
  rw [overL_low vs _ _ _ (by omega),List.getElem?_set_ne (by omega)]
theorem overL_at:∀ (vs xs:List Value) (o j:Nat),j < vs.length→o + j < xs.length→(overL xs o vs)[o + j]?=vs[j]?
 | [],xs,o,j,h,_ => by simp at h
 | v :: vs,xs,o,0,h,h2 => by
  unfold overL
  rw [overL_low vs _ _ _ (by omega)]
  simp only [Nat.add_zero] at h2 ⊢
  rw [List.getElem?_set_self h2]
  rfl
 | v :: vs,xs,o,j + 1,h,h2 => by
  unfold overL
  rw [show o + (j + 1)=o + 1 + j by omega,overL_at vs _ _ _ (by simpa using h) (by rw [List.length_set]; omega)]
  rfl
theorem own_over {L n cap b:Nat} {e:TypeId}:∀ (vs:List Value) (o:Nat) (w:World) (xs:List Value),w.ownsRow L e 1 (.slice (some ⟨b,0,none⟩) n cap) n xs→(w.setCells b o vs).ownsRow L e 1 (.slice (some ⟨b,0,none⟩) n cap) n (overL xs o vs)
 | [],_,_,_,h => h
 | v :: vs,o,w,xs,h => own_over vs (o + 1) _ _ (h.stored o v).1
theorem own_cut {w:World} {L n cap b:Nat} {e:TypeId} {xs:List Value} (h:w.ownsRow L e 1 (.slice (some ⟨b,0,none⟩) (n + 1) cap) (n + 1) xs):w.ownsRow L e 1 (.slice (some ⟨b,0,none⟩) n cap) n (xs.take n):=by
 refine ⟨by have:=h.1; rw [List.length_take]; omega,?_⟩
 rcases h.2 with hn | ⟨g,cap',cur,hv,hb,hg,hnc,hcm,hcs,ht⟩
 ·cases hn.1
 ·simp only [Value.slice.injEq,Option.some.injEq,Addr.mk.injEq,and_true,true_and] at hv
  obtain ⟨rfl,rfl⟩:=hv
  refine .inr ⟨b,cap,cur,rfl,hb,hg,by omega,hcm,hcs,?_⟩
  rw [← ht,List.take_take]
  congr 1
  omega
theorem But.setCells {q:Nat}:∀ (vs:List Value) (o:Nat) (w:World),But q w (w.setCells q o vs)
 | [],_,w => ⟨Below.refl _ _,fun _ _ _ => rfl⟩
 | v :: vs,o,w => (But.set o v).trans (But.setCells vs (o + 1) _)
set_option maxRecDepth 100000 in
set_option maxHeartbeats 1600000 in
theorem delete_first {w:World} {L n cap b:Nat} {x:Int} {l:List Int} (hown:w.ownsRow L 3 1 (.slice (some ⟨b,0,none⟩) (n + 1) cap) (n + 1) (kv .i64 (x :: l))) :
  Calls Tryz.prog 87 #[.slice (some ⟨b,0,none⟩) (n + 1) cap,.int .i64 0,.int .i64 1] w fun e w' => e=.returned (.slice (some ⟨b,0,none⟩) n cap)∧w'.ownsRow L 3 1 (.slice (some ⟨b,0,none⟩) n cap) n (kv .i64 l)∧But b w w':=by
 obtain ⟨i0,hi0,hz0,hz1,hz2⟩:=info_parts infoInt
 obtain ⟨hnc,hcm⟩:n + 1≤cap∧cap≤maxLen:=by
  rcases hown.2 with hn | ⟨g,cap',cur,hv,hb,hg,hnc,hcm,hcs,ht⟩
  ·cases hn.1
  ·simp only [Value.slice.injEq,Option.some.injEq,Addr.mk.injEq,and_true,true_and] at hv
   obtain ⟨rfl,rfl⟩:=hv
   exact ⟨hnc,hcm⟩
 unfold maxLen at hcm
 have hlen:(kv .i64 (x :: l)).length=n + 1:=by have:=hown.1; omega
 have hl:(kv .i64 l).length=n:=by simp [kv] at hlen ⊢; omega
 have hc:∀ j,j < n + 1→w.cell? ⟨b,j,none⟩=(kv .i64 (x :: l))[j]?:=fun j hj => hown.cellAt j (by omega)
 have hf:∀ j,w.frozen? ⟨b,j,none⟩=false:=fun j => hown.frozenAt j
 obtain ⟨A,hA,hnews⟩:∃ A:Addr,(if cap=1 then some (⟨b,0,none⟩:Addr) else some ⟨b,1,none⟩)=some A∧Hid (∀ j u,(kv .i64 l)[j]?=some u→w.drew.cell? (A.add j)=some u):=by
  by_cases h:cap=1
  ·refine ⟨⟨b,0,none⟩,by simp [h],fun j u hu => ?_⟩
   have h0:(kv .i64 l).length=0:=by omega
   rw [List.length_eq_zero_iff.1 h0] at hu
   simp at hu
  ·refine ⟨⟨b,1,none⟩,by simp [h],fun j u hu => ?_⟩
   have hj:j < n:=by
    have:=(List.getElem?_eq_some_iff.1 hu).1
    omega
   rw [Addr.add_lit,show 1 + j=j + 1 by omega]
   exact (hc (j + 1) (by omega)).trans (by rw [← hu]; rfl)
 have s1:Hid ((kv .i64 l).length=n * 1):=by show _=_; omega
 have s2:Hid (∀ u ∈ kv .i64 l,u.oneCell'=true):=by
  intro u hu
  obtain ⟨y,_,rfl⟩:=List.mem_map.1 hu
  rfl
 have s3:Hid (∀ j,j < (kv .i64 l).length→(w.drew.cell? ⟨b,0 + 0 * 1 + j,none⟩).isSome=true∧w.drew.frozen? ⟨b,0 + 0 * 1 + j,none⟩=false):=by
  intro j hj
  rw [show 0 + 0 * 1 + j=j by omega]
  refine ⟨?_,hf j⟩
  show (w.cell? _).isSome=true
  rw [hc j (by omega),List.getElem?_eq_getElem (show j < (kv .i64 (x :: l)).length by omega)]
  rfl
 obtain ⟨X,hX⟩:∃ X,X=kv .i64 l:=⟨_,rfl⟩
 have HOWN:=Lib.hid hown
 rw [← hX] at hnews s1 s2 s3
 have HX:=Lib.hid hX
 have HL:=Lib.hid hl
 have hp1:(1:Int)≤(n:Int) + 1:=by omega
 have hp2:(n:Int)≤(n:Int) + 1:=by omega
 have hp3:¬ cap=n:=by omega
 clear hc hf hown hl hlen hX
 go_enter Tryz.func87,Tryz.ntmps87
 go_wp2_with fail
 go_region_law (refine step_append_room rfl (.tmp 22) (.tmp 25) 62 rfl 3 i0 1 Tryz.underlying62 hi0 hz1 b 0 0 cap (by simp [Act.eval,Act.put]) A n (cap - 1) X (by simp [Act.eval,Act.put]) s1.out hnews.out s2.out (by omega) s3.out ?_)
 obtain ⟨w2,hw2⟩:∃ z,z=w.drew.setCells b 0 X:=⟨_,rfl⟩
 have HO2:Hid (w2.ownsRow L 3 1 (.slice (some ⟨b,0,none⟩) (n + 1) cap) (n + 1) (overL (kv .i64 (x :: l)) 0 X)):=by
  rw [hw2]
  exact own_over X 0 _ _ (own_below HOWN.out (Below.refl _ _).drew)
 have HB2:Hid (But b w w2):=by
  rw [hw2]
  exact (But.of (Below.refl _ _).drew (by have:=(HOWN.out.lt b rfl).2; omega)).trans (But.setCells X 0 _)
 obtain ⟨yl,y1⟩:∃ y,w2.cell? ⟨b,n,none⟩=some y:=by
  have h1:=HO2.out.cellAt n (by omega)
  rw [List.getElem?_eq_getElem (show n < (overL (kv .i64 (x :: l)) 0 X).length by have:=HO2.out.1; omega)] at h1
  exact ⟨_,h1⟩
 have f1:w2.frozen? ⟨b,n,none⟩=false:=HO2.out.frozenAt n
 rw [← hw2]
 clear hw2 hA hnews s1 s2 s3
 have hy1:∀ j,j < 1→(w2.cell? ⟨b,n + j,none⟩).isSome=true:=fun j hj => by
  obtain rfl:j=0:=by omega
  rw [Nat.add_zero,y1]
  rfl
 have hy2:∀ j,j < 1→w2.frozen? ⟨b,n + j,none⟩=false:=fun j hj => by
  obtain rfl:j=0:=by omega
  exact f1
 have hcl:(Builtin.clear_ #[62] 0 #[.slice (some ⟨b,n,none⟩) 1 (cap - n)]).run Tryz.prog w2=.ok (.tuple #[]) (w2.setCell ⟨b,n,none⟩ (.int .i64 0)) :=
  Lib.run_clear_slice w2 62 3 0 (.int .i64 0) Tryz.underlying62 (fun w => by kernel_rfl) rfl rfl b n 1 (cap - n) (by omega) hy1 hy2
 clear hy1 hy2
 go_wp2
 go_ret
 have h3:=own_cut (HO2.out.stored n (.int .i64 0)).1
 have hx:((overL (kv .i64 (x :: l)) 0 X).set n (.int .i64 0)).take n=kv .i64 l:=by
  have hX:=HX.out
  have hl:=HL.out
  apply List.ext_getElem?
  intro j
  by_cases hj:j < n
  ·rw [List.getElem?_take,if_pos hj,List.getElem?_set_ne (by omega)]
   have:=overL_at X (kv .i64 (x :: l)) 0 j (by rw [hX]; omega) (by have:=HOWN.out.1; omega)
   rw [Nat.zero_add] at this
   rw [this,hX]
  ·rw [List.getElem?_take,if_neg hj,List.getElem?_eq_none (by omega)]
 rw [hx] at h3
 exact ⟨by first | rfl | (simp; done),h3,HB2.out.trans (But.set n _)⟩
end
end Go.Proofs.YtpcapdpglpgcbaaGreat
