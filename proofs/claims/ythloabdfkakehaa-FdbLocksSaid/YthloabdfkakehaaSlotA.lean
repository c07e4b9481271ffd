/-
  Words and contracts that a statement's proof rests on (SlotA). No statement is proved here.
-/
import Derived.Test.YthloabdfkakehaaKeyB
set_option linter.unusedVariables false
set_option linter.unusedSimpArgs false
namespace Go.Proofs.Ythloabdfkakehaa
open Go.RowKit
theorem rightE_at (v:Int) (m:Nat) (p:Int) (st:Bool) (s:Nat):rightE ⟨v,m,p,st,s⟩=(rightK v m && (decide (0≤p) && decide (p < 64) && !(st && decide (s ≠ 0)))):=by
 unfold rightE
 cases st <;> simp [Bool.decide_and,Bool.and_assoc]
set_option maxHeartbeats 1600000 in
theorem slot_Right (v:Int) (m:Nat) (hm:m < 18446744073709551616) (p:Int) (st:Bool) (s:Nat) (hs:s < 4294967296) (w:World) :
  Calls Try.prog 112 #[.agg #[.int .i64 v,.int .u64 (m:Int),.int .i64 p,.bool st,.int .u32 (s:Int)]] w (Says (.bool (rightE ⟨v,m,p,st,s⟩)) w):=by
 have hR:=fun W => key_Right v m hm W
 rw [rightE_at]
 generalize rightK v m=r at *
 have HR:=Lib.hid hR
 clear hR hm
 cases st
 ·cases r
  ·go_enter Try.func112,Try.ntmps112
   go_wp2_with fail
   refine (HR.out _).mono ?_
   rintro e w1 ⟨rfl,hb⟩
   obtain ⟨hc,_⟩:=bcell hb
   have c2:w1.cell? ⟨w.heap.size,2,none⟩=some (.int .i64 p):=by rw [hc _ _ (by simp)]; simp [go_sem]
   have HB:=Lib.hid (Below.trans ((Below.refl _ _).alloc (Nat.le_refl _) _) (hb.mono (by simp)))
   clear hc hb
   go_wp2
   all_goals go_ret
   all_goals refine ⟨ret_bool ?_,HB.out⟩
   all_goals first | rfl | (simp; done) | (simp_all; done) | (simp; omega) | (rw [Bool.eq_iff_iff]; simp; omega)
  ·go_enter Try.func112,Try.ntmps112
   go_wp2_with fail
   refine (HR.out _).mono ?_
   rintro e w1 ⟨rfl,hb⟩
   obtain ⟨hc,_⟩:=bcell hb
   have c2:w1.cell? ⟨w.heap.size,2,none⟩=some (.int .i64 p):=by rw [hc _ _ (by simp)]; simp [go_sem]
   have HB:=Lib.hid (Below.trans ((Below.refl _ _).alloc (Nat.le_refl _) _) (hb.mono (by simp)))
   clear hc hb
   go_wp2
   all_goals go_ret
   all_goals refine ⟨ret_bool ?_,HB.out⟩
   all_goals first | rfl | (simp; done) | (simp_all; done) | (simp; omega) | (rw [Bool.eq_iff_iff]; simp; omega)
 ·by_cases hz:s=0
  ·subst hz
   cases r
   ·go_enter Try.func112,Try.ntmps112
    go_wp2_with fail
    refine (HR.out _).mono ?_
    rintro e w1 ⟨rfl,hb⟩
    obtain ⟨hc,_⟩:=bcell hb
    have c2:w1.cell? ⟨w.heap.size,2,none⟩=some (.int .i64 p):=by rw [hc _ _ (by simp)]; simp [go_sem]
    have HB:=Lib.hid (Below.trans ((Below.refl _ _).alloc (Nat.le_refl _) _) (hb.mono (by simp)))
    clear hc hb
    go_wp2
    all_goals go_ret
    all_goals refine ⟨ret_bool ?_,HB.out⟩
    all_goals first | rfl | (simp; done) | (simp_all; done) | (simp; omega) | (rw [Bool.eq_iff_iff]; simp; omega)
   ·go_enter Try.func112,Try.ntmps112
    go_wp2_with fail
    refine (HR.out _).mono ?_
    rintro e w1 ⟨rfl,hb⟩
    obtain ⟨hc,_⟩:=bcell hb
    have c2:w1.cell? ⟨w.heap.size,2,none⟩=some (.int .i64 p):=by rw [hc _ _ (by simp)]; simp [go_sem]
    have HB:=Lib.hid (Below.trans ((Below.refl _ _).alloc (Nat.le_refl _) _) (hb.mono (by simp)))
    clear hc hb
    go_wp2
    all_goals go_ret
    all_goals refine ⟨ret_bool ?_,HB.out⟩
    all_goals first | rfl | (simp; done) | (simp_all; done) | (simp; omega) | (rw [Bool.eq_iff_iff]; simp; omega)
  ·have hz1:¬ (s:Int)=0:=by omega
   cases r
   ·go_enter Try.func112,Try.ntmps112
    go_wp2
    go_ret
    exact ⟨ret_bool (by first | rfl | (simp; done) | (simp [hz]; done)),((Below.refl _ _).alloc (Nat.le_refl _) _)⟩
   ·go_enter Try.func112,Try.ntmps112
    go_wp2
    go_ret
    exact ⟨ret_bool (by first | rfl | (simp; done) | (simp [hz]; done)),((Below.refl _ _).alloc (Nat.le_refl _) _)⟩
set_option maxHeartbeats 1600000 in
theorem slot_Words (v:Int) (m:Nat) (hm:m < 18446744073709551616) (p:Int) (st:Bool) (s:Nat) (hs:s < 4294967296) (w:World) :
  Calls Try.prog 107 #[.agg #[.int .i64 v,.int .u64 (m:Int),.int .i64 p,.bool st,.int .u32 (s:Int)]] w (Says (.tuple #[.int .u64 (wordA ⟨v,m,p,st,s⟩:Nat),.int .u64 (wordB ⟨v,m,p,st,s⟩:Nat)]) w):=by
 have hR:=fun W => slot_Right v m hm p st s hs W
 have hW:=fun W => key_Word v m hm W
 cases hr:rightE ⟨v,m,p,st,s⟩
 ·have ha:wordA ⟨v,m,p,st,s⟩=0:=by unfold wordA; rw [hr]; rfl
  have hb:wordB ⟨v,m,p,st,s⟩=0:=by unfold wordB; rw [hr]; rfl
  rw [ha,hb]
  rw [hr] at hR
  have HR:=Lib.hid hR
  clear hR hW hm hs ha hb hr
  go_enter Try.func107,Try.ntmps107
  go_wp2_with fail
  refine (HR.out _).mono ?_
  rintro e w1 ⟨rfl,hb⟩
  have HB:=Lib.hid (Below.trans ((Below.refl _ _).alloc (Nat.le_refl _) _) (hb.mono (by simp)))
  clear hb
  go_wp2
  go_ret2
  exact ⟨rfl,HB.out⟩
 ·have ha:wordA ⟨v,m,p,st,s⟩=wordN v m:=by unfold wordA; rw [hr]; rfl
  have hb:wordB ⟨v,m,p,st,s⟩=lowN ⟨v,m,p,st,s⟩:=by unfold wordB; rw [hr]; rfl
  obtain ⟨_,hp0,hp1,hst⟩:=rightE_iff.1 hr
  simp only at hp0 hp1
  obtain ⟨P,rfl⟩:=Int.eq_ofNat_of_zero_le hp0
  have hP:P < 64:=by omega
  have hP1:(P:Int) < 64:=by omega
  have hP0:(0:Int)≤(P:Int):=by omega
  have hu:IntKind.u64.wrap (P:Int)=(P:Int):=by rw [IntKind.wrap_u64]; omega
  rw [ha,hb]
  rw [hr] at hR
  have HR:=Lib.hid hR
  generalize wordN v m=q at *
  have HW:=Lib.hid hW
  clear hR hW ha hb hr hst hp0 hp1
  have hor:bits .or .u64 ((s:Int) * 4294967296) (P:Int)=((s * 4294967296 + P:Nat):Int):=by
   have:=u64_or_nat (s * 4294967296) P (by omega) (by omega)
   rw [or_32 s P (by omega)] at this
   simpa using this
  have hor2:bits .or .u64 ((s * 4294967296 + P:Nat):Int) 256=((s * 4294967296 + 256 + P:Nat):Int):=by
   have:=u64_or_nat (s * 4294967296 + P) 256 (by omega) (by omega)
   rw [or_256 s P (by omega)] at this
   simpa using this
  obtain ⟨x,hx⟩:∃ x,x=s * 4294967296 + P:=⟨_,rfl⟩
  obtain ⟨y,hy⟩:∃ y,y=s * 4294967296 + 256 + P:=⟨_,rfl⟩
  rw [← hx] at hor hor2
  rw [← hy] at hor2
  have hl1:lowN ⟨v,m,(P:Int),false,s⟩=x:=by rw [hx]; unfold lowN; simp
  have hl2:lowN ⟨v,m,(P:Int),true,s⟩=y:=by rw [hy]; unfold lowN; simp
  clear hx hy
  cases st
  ·rw [hl1]
   clear hl1 hl2 hor2 hm hP
   go_enter Try.func107,Try.ntmps107
   go_wp2_with fail
   refine (HR.out _).mono ?_
   rintro e w1 ⟨rfl,hb⟩
   obtain ⟨hc,hf⟩:=bcell hb
   have c0:w1.cell? ⟨w.heap.size,0,none⟩=some (.int .i64 v):=by rw [hc _ _ (by simp)]; simp [go_sem]
   have c1:w1.cell? ⟨w.heap.size,1,none⟩=some (.int .u64 (m:Int)):=by rw [hc _ _ (by simp)]; simp [go_sem]
   have c2:w1.cell? ⟨w.heap.size,2,none⟩=some (.int .i64 (P:Int)):=by rw [hc _ _ (by simp)]; simp [go_sem]
   have c3:w1.cell? ⟨w.heap.size,3,none⟩=some (.bool false):=by rw [hc _ _ (by simp)]; simp [go_sem]
   have c4:w1.cell? ⟨w.heap.size,4,none⟩=some (.int .u32 (s:Int)):=by rw [hc _ _ (by simp)]; simp [go_sem]
   have hB1:Below w.heap.size w w1:=Below.trans ((Below.refl _ _).alloc (Nat.le_refl _) _) (hb.mono (by simp))
   have hz1:=hB1.size
   clear hc hf hb
   go_wp2_with fail
   refine (HW.out _).mono ?_
   rintro e w2 ⟨rfl,hb⟩
   have HB:=Lib.hid (hB1.trans (hb.mono hz1))
   clear hb c0 c1 c2 c3 c4 hB1
   go_wp2
   go_ret2
   exact ⟨rfl,HB.out⟩
  ·rw [hl2]
   clear hl1 hl2 hm hP
   go_enter Try.func107,Try.ntmps107
   go_wp2_with fail
   refine (HR.out _).mono ?_
   rintro e w1 ⟨rfl,hb⟩
   obtain ⟨hc,hf⟩:=bcell hb
   have c0:w1.cell? ⟨w.heap.size,0,none⟩=some (.int .i64 v):=by rw [hc _ _ (by simp)]; simp [go_sem]
   have c1:w1.cell? ⟨w.heap.size,1,none⟩=some (.int .u64 (m:Int)):=by rw [hc _ _ (by simp)]; simp [go_sem]
   have c2:w1.cell? ⟨w.heap.size,2,none⟩=some (.int .i64 (P:Int)):=by rw [hc _ _ (by simp)]; simp [go_sem]
   have c3:w1.cell? ⟨w.heap.size,3,none⟩=some (.bool true):=by rw [hc _ _ (by simp)]; simp [go_sem]
   have c4:w1.cell? ⟨w.heap.size,4,none⟩=some (.int .u32 (s:Int)):=by rw [hc _ _ (by simp)]; simp [go_sem]
   have hB1:Below w.heap.size w w1:=Below.trans ((Below.refl _ _).alloc (Nat.le_refl _) _) (hb.mono (by simp))
   have hz1:=hB1.size
   clear hc hf hb
   go_wp2_with fail
   refine (HW.out _).mono ?_
   rintro e w2 ⟨rfl,hb⟩
   have HB:=Lib.hid (hB1.trans (hb.mono hz1))
   clear hb c0 c1 c2 c3 c4 hB1
   go_wp2
   go_ret2
   exact ⟨rfl,HB.out⟩
end Go.Proofs.Ythloabdfkakehaa
