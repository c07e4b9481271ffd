/-
  Words and contracts that a statement's proof rests on (HiT). No statement is proved here.
-/
import Derived.Test.YtfekhdgjgjodlaaGreatSrA
import Derived.Test.YtfekhdgjgjodlaaGreatHiE
import Derived.Test.YtfekhdgjgjodlaaGreatMoK
set_option linter.unusedVariables false
set_option linter.unusedSimpArgs false
namespace Go.Proofs.YtfekhdgjgjodlaaGreat
open Go.RowKit
theorem t18_fix (W:World):Calls Tryz.prog 7 #[.agg #[.int .i64 0,.slice none 0 0,.slice none 0 0,.int .i64 0,.int .i64 0,.int .i64 0,.int .i64 0,.int .i64 0,.int .u32 0,.int .u32 0]] W fun e' w' => ∃ Ar cr Av cv,e'=.returned (.agg #[.int .i64 2,.slice Ar 2 cr,.slice Av 0 cv,.int .i64 1,.int .i64 1,.int .i64 1,.int .i64 1,.int .i64 1,.int .u32 0,.int .u32 0])∧Sl w' w'.heap.size 2 (.slice Ar 2 cr) 2 (rlc (fixRs [] 2))∧Sl w' w'.heap.size 3 (.slice Av 0 cv) 0 (vlc (fixVs (allN 2) [] 0))∧Below W.heap.size W w':=by
 refine (ref17_Fix (told_nil W W.heap.size) (⟨rfl,none,0,rfl,Nat.le_refl _,Nat.zero_le _,fun h => absurd h (by omega)⟩:Sl W W.heap.size 3 (.slice none 0 0) 0 (vlc [])) (by intro x hx; simp at hx) (Nat.le_refl _) 0 0 0 0 0 0 0 0 2 1 1 1 1 1 (by decide) (by decide) (by decide) (by decide) (by decide) (by decide)).mono ?_
 rintro e' w' ⟨ur,uv,rfl,h1,h2,hb⟩
 obtain ⟨Ar,cr,rfl,_,_⟩:=(Sl.of_own h1).form
 obtain ⟨Av,cv,rfl,_,_⟩:=(Sl.of_own h2).form
 exact ⟨Ar,cr,Av,cv,rfl,Sl.of_own h1,Sl.of_own h2,hb⟩
theorem t18_to (W:World) (B:Nat) (Ar:Option Addr) (cr:Nat) (Av:Option Addr) (cv:Nat) (h1:Sl W B 2 (.slice Ar 2 cr) 2 (rlc (fixRs [] 2))) (h2:Sl W B 3 (.slice Av 0 cv) 0 (vlc (fixVs (allN 2) [] 0))) (hB:B≤W.heap.size) :
  Calls Tryz.prog 10 #[.agg #[.int .i64 2,.slice Ar 2 cr,.slice Av 0 cv,.int .i64 1,.int .i64 1,.int .i64 1,.int .i64 1,.int .i64 1,.int .u32 0,.int .u32 0]] W fun e w' => ∃ Ar cr Av cv,e=.returned (.agg #[.int .i64 2,.slice Ar 2 cr,.slice Av 0 cv,.int .i64 1,.int .i64 1,.int .i64 1,.int .i64 1,.int .i64 1,.int .u32 0,.int .u32 0])∧Sl w' w'.heap.size 2 (.slice Ar 2 cr) 2 (rlc (fixRs [] 2))∧Sl w' w'.heap.size 3 (.slice Av 0 cv) 0 (vlc (fixVs (allN 2) [] 0))∧Below W.heap.size W w':=by
 refine (law17_To h1 h2 hB (by omega) (by omega) 2 1 1 1 1 1 0 0).mono ?_
 rintro e w' ⟨ur,uv,rfl,h1,h2,hb⟩
 obtain ⟨Ar',cr',rfl,_,_⟩:=(Sl.of_own h1).form
 obtain ⟨Av',cv',rfl,_,_⟩:=(Sl.of_own h2).form
 exact ⟨Ar',cr',Av',cv',rfl,Sl.of_own h1,Sl.of_own h2,hb⟩
theorem t18_plan:PlanOk (fixRs [] 2) (fixVs (allN 2) [] 0) 2 0 2 2 1 1 1 1 1 :=
 ⟨fixVs_ok _ _ (allN_lt _) 0 (by omega),fixRs_first [] 2,by omega,by omega,by omega,by omega,by omega,by omega,fix_good [] [] 0 0 0 0 0 0 2 1 1 1 1 1 0 (by decide) (by decide) (by decide) (by decide) (by decide) (by decide)⟩
def e18 (a:Int):Ent:=⟨0,0,1,2,⟨8,0,0,0,4,0,0,0,0,0,0,0,0,0⟩,a⟩
theorem e18_ok (a:Int):(e18 a).op.ok:=⟨⟨by show (-9223372036854775808:Int)≤0; decide,by show (0:Int)≤9223372036854775807; decide⟩,by show (0:Nat) < 18446744073709551616; decide,by show (0:Nat) < 18446744073709551616; decide,by show (0:Nat) < 18446744073709551616; decide,by show (0:Nat) < 4294967296; decide⟩
theorem e18_ord (a:Int):OrdL 1 (fun _ => (e18 a).mar) [0]:=⟨List.pairwise_singleton _ _,fun i => by
 have:(e18 a).mar=1:=rfl
 simp [this]⟩
theorem e18_A:doA 2 1 1 1 1 0 (ms0 (fixVs (allN 2) [] 0)) (e18 0).op=1:=by
 rw [doA_8 rfl]
 unfold dA8
 rw [if_pos (by decide),if_pos (by decide)]
 rfl
theorem e18_op (a:Int):(e18 a).op=(e18 0).op:=rfl
theorem e18_chk (a:Int):chkH 2 1 1 1 1 0 (fun _ => e18 a) 1 [0] (ms0 (fixVs (allN 2) [] 0))=if a=1 then (-1,0) else (0,7):=by
 have h1:firstJ (fun _ => misT (e18 a)) 1=-1:=rfl
 have h2:firstJ (busB fun _ => e18 a) 1=-1:=rfl
 unfold chkH
 rw [h1,h2,if_neg (fun h => h rfl),if_neg (fun h => h rfl)]
 simp only [rpl,e18_op a,e18_A]
 have h3:(e18 a).fin=2:=rfl
 have h4:(e18 a).ans=a:=rfl
 rw [h3,h4]
 by_cases e:a=1
 ·subst e; rfl
 ·simp [e]
set_option maxHeartbeats 1600000 in
theorem t18_check {W:World} {B Bl:Nat} {Ar Av:Option Addr} {cr cv g:Nat} (h1:Sl W B 2 (.slice Ar 2 cr) 2 (rlc (fixRs [] 2))) (h2:Sl W B 3 (.slice Av 0 cv) 0 (vlc (fixVs (allN 2) [] 0))) (hB:B≤W.heap.size) {a:Int} (he:EntHolds W g 0 (e18 a)) (hg:g < W.heap.size) {x y:Int} (hxy:(if a=1 then ((-1,0):Int × Int) else (0,7))=(x,y)) :
  Calls Tryz.prog 9 #[.agg #[.int .i64 2,.slice Ar 2 cr,.slice Av 0 cv,.int .i64 1,.int .i64 1,.int .i64 1,.int .i64 1,.int .i64 1,.int .u32 0,.int .u32 0],.slice (some ⟨g,0,none⟩) 1 1] W (Says (.tuple #[.int .i64 x,.int .i64 y]) W):=by
 have hl:EnRow W W.heap.size 1 (.slice (some ⟨g,0,none⟩) 1 1) (fun _ => e18 a):=⟨_,1,rfl,Nat.le_refl _,by decide,fun _ => ⟨g,0,rfl,hg,fun i hi => by
  have:i=0:=by omega
  subst this
  exact he⟩⟩
 have h9:=hist_Check (h1.mono hB) (h2.mono hB) (Nat.le_refl _) t18_plan (by omega) hl (fun _ _ => e18_ok a) (fun _ _ => ⟨by show rngI 0; unfold rngI; omega,by show rngI 1; unfold rngI; omega⟩) 0 0 (e18_ord a)
 rw [e18_chk,hxy] at h9
 exact h9
set_option maxHeartbeats 1600000 in
theorem t18_order {W:World} {g:Nat} {a:Int} (he:EntHolds W g 0 (e18 a)) (hg:g < W.heap.size) :
  Calls Tryz.prog 14 #[.slice (some ⟨g,0,none⟩) 1 1] W fun e w' => ∃ A c,e=.returned (.slice A 1 c)∧Sl w' w'.heap.size 1 (.slice A 1 c) 1 (kv .i64 [0])∧Below W.heap.size W w':=by
 have hl:EnRow W W.heap.size 1 (.slice (some ⟨g,0,none⟩) 1 1) (fun _ => e18 a):=⟨_,1,rfl,Nat.le_refl _,by decide,fun _ => ⟨g,0,rfl,hg,fun i hi => by
  have:i=0:=by omega
  subst this
  exact he⟩⟩
 refine (hist_Order (by omega) hl (Nat.le_refl _)).mono ?_
 rintro e w' ⟨A,c,o,rfl,ho,hs,hb,_⟩
 obtain rfl:o=[0]:=ho.uniq (e18_ord a)
 exact ⟨A,c,rfl,hs,hb⟩
set_option maxRecDepth 20000 in
set_option maxHeartbeats 6400000 in
theorem law18_told (w:World):Calls Tryz.prog 12 #[] w (Says (.bool true) w):=by
 have HFX:=Lib.hid t18_fix
 have HTO:=Lib.hid t18_to
 go_enter Tryz.func12,Tryz.ntmps12
 go_upto_region 2 with (first
  | (go_at_call 7; (with_reducible refine Calls.mono (HFX.out _) ?_); rintro e w1 ⟨Ax,cx,Ay,cy,rfl,h1,h2,hb⟩; (have H1:=Lib.hid h1); (have H2:=Lib.hid h2); (have HB1:=Lib.hid hb); clear h1 h2 hb)
  | (go_at_call 10; (with_reducible refine Calls.mono (HTO.out _ w1.heap.size _ _ _ _ H1.out H2.out (Nat.le_refl _)) ?_); rintro e w3 ⟨Ar,cr,Av,cv,rfl,h1,h2,hb⟩; (have H3:=Lib.hid h1); (have H4:=Lib.hid h2); (have HB3:Hid (Below w.heap.size w w3):=HB1.out.trans (hb.mono HB1.out.size)); clear h1 h2 hb H1 H2 HB1)
  | (refine wpList_store (by rfl) 41 _ _ (by rfl) w3.heap.size 0 #[.int .i64 2,.slice Ar 2 cr,.slice Av 0 cv,.int .i64 1,.int .i64 1,.int .i64 1,.int .i64 1,.int .i64 1,.int .u32 0,.int .u32 0] (by rfl) (by rfl) (there_of (cs:=#[.int .i64 0,.slice none 0 0,.slice none 0 0,.int .i64 0,.int .i64 0,.int .i64 0,.int .i64 0,.int .i64 0,.int .u32 0,.int .u32 0]) (heap_self _ _ _)) (by kernel_rfl) (by simp [Value.oneCell']) ?_; intro wz hst; (have HST:=Lib.hid hst); clear hst)
  | fail)
 have HBZ:Hid (Below w3.heap.size w3 wz∧wz.heap.size=w3.heap.size + 1):=⟨((Below.refl _ _).alloc (Nat.le_refl _) _).trans (HST.out.below _ (Nat.le_refl _)),by rw [HST.out.size]; simp⟩
 have HPL:Hid (∀ w',Below wz.heap.size wz w'→w'.rangeAt w3.heap.size 0 [.int .i64 2,.slice Ar 2 cr,.slice Av 0 cv,.int .i64 1,.int .i64 1,.int .i64 1,.int .i64 1,.int .i64 1,.int .u32 0,.int .u32 0]):=fun w' hb j v hv => (hb.cell (p:=⟨w3.heap.size,0 + j,none⟩) (by show w3.heap.size < _; have:=HBZ.out.2; omega)).trans (HST.out.cells j v hv)
 have HWB:Hid (Below w.heap.size w wz):=HB3.out.trans (HBZ.out.1.mono HB3.out.size)
 clear HST HFX HTO
 go_upto_region 3 with fail
 obtain ⟨w5,hw5⟩:∃ w5,w5=wz.alloc (.cells #[.int .i64 0,.int .i64 0,.int .i64 1,.int .i64 2,.int .i64 8,.int .i64 0,.int .i64 0,.int .i64 0,.int .i64 4,.int .i64 0,.int .u64 0,.int .u64 0,.int .u64 0,.int .u32 0,.int .u32 0,.int .i64 0,.int .i64 0,.int .i64 0,.int .i64 1] 68):=⟨_,rfl⟩
 have HE1:Hid (∀ w',Below w5.heap.size w5 w'→EntHolds w' wz.heap.size 0 (e18 1)):=fun w' hb => box19 hw5 w' hb
 have HW5:=Lib.hid (box_below hw5)
 have HF5:Hid (∀ o,w5.frozen? ⟨wz.heap.size,o,none⟩=false):=fun o => by rw [hw5]; simp [go_sem]
 (try rw [← hw5])
 clear hw5
 have HP5:Hid (∀ w',Below w5.heap.size w5 w'→w'.rangeAt w3.heap.size 0 [.int .i64 2,.slice Ar 2 cr,.slice Av 0 cv,.int .i64 1,.int .i64 1,.int .i64 1,.int .i64 1,.int .i64 1,.int .u32 0,.int .u32 0]):=fun w' hb => HPL.out w' (HW5.out.1.trans (hb.mono HW5.out.1.size))
 have HB5:Hid (∀ w',Below w5.heap.size w5 w'→Below w3.heap.size w3 w'):=fun w' hb => HBZ.out.1.trans ((HW5.out.1.trans (hb.mono HW5.out.1.size)).mono HBZ.out.1.size)
 have HC1:Hid (∀ w',Below w5.heap.size w5 w'→Calls Tryz.prog 9 #[.agg #[.int .i64 2,.slice Ar 2 cr,.slice Av 0 cv,.int .i64 1,.int .i64 1,.int .i64 1,.int .i64 1,.int .i64 1,.int .u32 0,.int .u32 0],.slice (some ⟨wz.heap.size,0,none⟩) 1 1] w' (Says (.tuple #[.int .i64 (-1),.int .i64 0]) w')):=fun w' hb => t18_check (Bl:=0) (H3.out.below (HB5.out w' hb)) (H4.out.below (HB5.out w' hb)) (HB5.out w' hb).size (HE1.out w' hb) (by have:=hb.size; have:=HW5.out.2; omega) rfl
 have hq:Below w5.heap.size w5 w5:=Below.refl _ _
 go_upto_region 4 with (first
  | (refine wpList_load_mid (by rfl) 41 _ (by rfl) w3.heap.size 0 (by rfl) [.int .i64 2,.slice Ar 2 cr,.slice Av 0 cv,.int .i64 1,.int .i64 1,.int .i64 1,.int .i64 1,.int .i64 1,.int .u32 0,.int .u32 0] _ (HP5.out _ hq) Tryz.underlying41 (by rfl) (by kernel_rfl) ?_)
  | (go_at_call 9; (with_reducible refine Calls.mono (HC1.out _ hq) ?_); rintro e w6 ⟨rfl,hb6⟩; (have HQ6:=Lib.hid hb6); clear hb6 hq)
  | fail)
 clear HC1
 have HC18:Hid (w6.cell? ⟨wz.heap.size,18,none⟩=some (.int .i64 1)):=(HE1.out w6 HQ6.out).ans_
 have hc18:=HC18.out
 have hf18:w6.frozen? ⟨wz.heap.size,18,none⟩=false:=(HQ6.out.frozen (p:=⟨wz.heap.size,18,none⟩) (by show wz.heap.size < _; have:=HW5.out.2; omega)).trans (HF5.out 18)
 go_upto_region 5 with fail
 clear hc18 hf18
 obtain ⟨w7,hw7⟩:∃ w7,w7=w6.setCell ⟨wz.heap.size,18,none⟩ (.int .i64 2):=⟨_,rfl⟩
 have HE2:Hid (∀ w',Below w7.heap.size w7 w'→EntHolds w' wz.heap.size 0 (e18 2)):=fun w' hb => by
  have hlt:wz.heap.size < w7.heap.size:=by rw [hw7]; have:=HW5.out.2; have:=HQ6.out.size; simp; omega
  refine EntHolds.keep ?_ (w:=w7) fun p hp => hb.cell (by rw [hp]; exact hlt)
  rw [hw7]
  exact (HE1.out w6 HQ6.out).set_ans 2
 have HB7:Hid (Below wz.heap.size wz w7∧wz.heap.size < w7.heap.size):=⟨by rw [hw7]; exact (HW5.out.1.trans (HQ6.out.mono HW5.out.1.size)).setCell (Nat.le_refl _) _,by rw [hw7]; have:=HW5.out.2; have:=HQ6.out.size; simp; omega⟩
 rw [← hw7]
 clear hw7
 have HP7:Hid (∀ w',Below w7.heap.size w7 w'→w'.rangeAt w3.heap.size 0 [.int .i64 2,.slice Ar 2 cr,.slice Av 0 cv,.int .i64 1,.int .i64 1,.int .i64 1,.int .i64 1,.int .i64 1,.int .u32 0,.int .u32 0]):=fun w' hb => HPL.out w' (HB7.out.1.trans (hb.mono HB7.out.1.size))
 have HB8:Hid (∀ w',Below w7.heap.size w7 w'→Below w3.heap.size w3 w'):=fun w' hb => HBZ.out.1.trans ((HB7.out.1.trans (hb.mono HB7.out.1.size)).mono HBZ.out.1.size)
 have HC2:Hid (∀ w',Below w7.heap.size w7 w'→Calls Tryz.prog 9 #[.agg #[.int .i64 2,.slice Ar 2 cr,.slice Av 0 cv,.int .i64 1,.int .i64 1,.int .i64 1,.int .i64 1,.int .i64 1,.int .u32 0,.int .u32 0],.slice (some ⟨wz.heap.size,0,none⟩) 1 1] w' (Says (.tuple #[.int .i64 0,.int .i64 7]) w')):=fun w' hb => t18_check (Bl:=0) (H3.out.below (HB8.out w' hb)) (H4.out.below (HB8.out w' hb)) (HB8.out w' hb).size (HE2.out w' hb) (by have:=hb.size; have:=HB7.out.2; omega) rfl
 have HOR:Hid (∀ w',Below w7.heap.size w7 w'→Calls Tryz.prog 14 #[.slice (some ⟨wz.heap.size,0,none⟩) 1 1] w' fun e w2 => ∃ A c,e=.returned (.slice A 1 c)∧Sl w2 w2.heap.size 1 (.slice A 1 c) 1 (kv .i64 [0])∧Below w'.heap.size w' w2):=fun w' hb => t18_order (HE2.out w' hb) (by have:=hb.size; have:=HB7.out.2; omega)
 have hq:Below w7.heap.size w7 w7:=Below.refl _ _
 clear HQ6 HE1 HE2 HF5 HP5 HPL HC18 H3 H4
 go_wp2_with (first
  | go_big_skip
  | (refine wpList_load_mid (by rfl) 41 _ (by rfl) w3.heap.size 0 (by rfl) [.int .i64 2,.slice Ar 2 cr,.slice Av 0 cv,.int .i64 1,.int .i64 1,.int .i64 1,.int .i64 1,.int .i64 1,.int .u32 0,.int .u32 0] _ (HP7.out _ hq) Tryz.underlying41 (by rfl) (by kernel_rfl) ?_; clear HP7)
  | (go_at_call 9; (with_reducible refine Calls.mono (HC2.out _ hq) ?_); rintro e w8 ⟨rfl,hb8⟩; (have HQ8:=Lib.hid hb8); clear hb8 hq)
  | (go_at_call 14; (with_reducible refine Calls.mono (HOR.out _ HQ8.out) ?_); rintro e w9 ⟨A9,c9,rfl,hs9,hb9⟩; (have HS9:=Lib.hid hs9); (have HQ9:=Lib.hid (HQ8.out.trans (hb9.mono HQ8.out.size))); clear hs9 hb9)
  | (go_at_call 13; (with_reducible refine Calls.mono (law3_IntsEq9 (HS9.out.below ((Below.refl _ _).alloc (Nat.le_refl _) _)) (ints_lit0 w9 _)) ?_); rintro e w10 ⟨rfl,n10,hw10⟩; (have HQ10:Hid (Below w7.heap.size w7 w10):=Lib.hid (by rw [hw10]; exact below_drew9 (HQ9.out.alloc HQ9.out.size _) n10)); clear hw10)
  | fail)
 go_ret
 exact ⟨by first | rfl | (simp; done),HWB.out.trans ((HB7.out.1.trans (HQ10.out.mono HB7.out.1.size)).mono HWB.out.size)⟩
end Go.Proofs.YtfekhdgjgjodlaaGreat
