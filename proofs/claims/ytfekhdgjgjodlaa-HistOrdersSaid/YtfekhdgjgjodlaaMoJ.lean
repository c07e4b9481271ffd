/-
  Words and contracts that a statement's proof rests on (SrI, SrJ, MoJ, MoY). No statement is proved here.
-/
import Derived.Deep.DeepCutAuto
import Derived.Test.YtfekhdgjgjodlaaTicks
import Derived.Test.YtfekhdgjgjodlaaMoX
import Derived.Test.YtfekhdgjgjodlaaMoM
import Derived.Test.YtfekhdgjgjodlaaSrH
import Derived.Test.YtfekhdgjgjodlaaMoF
set_option linter.unusedVariables false
set_option linter.unusedSimpArgs false
namespace Go.Proofs.Ytfekhdgjgjodlaa
section
open Go.RowKit
section
variable {pb n cp lb N:Nat} {key:Nat→Int}
set_option maxRecDepth 20000 in
set_option maxHeartbeats 12800000 in
theorem stable_row (hn:n≤1000000) {w:World} {f:Nat→Nat} (h:SrAt w pb n lb N key f) (ht:StK key f 0 n) :
  Calls Try.prog 16 #[.slice (some ⟨pb,0,none⟩) n cp,.int .i64 (n:Nat),(.func (.func 9) #[] #[.pointer (some ⟨lb,0,none⟩)])] w (MgAt w pb n lb N key f 0 n):=by
 have HS:=Lib.hid h
 have HT:=Lib.hid ht
 clear h ht
 go_enter Try.func16,Try.ntmps16
 go_wp2
 go_loopw [7,8] (fun av bv wr => ∃ (k a b:Nat) (g:Nat→Nat) (wx:World),wx=wr∧av=.int .i64 a∧bv=.int .i64 b∧a≤n∧b=a + 20∧Hid (a=k * 20∧BlK key g n 20 k∧StK key g 0 n∧ImK f g 0 n∧SrAt wr pb n lb N key g∧But pb w wr)) (fun av bv _ => n + 21 - (intOf bv).toNat)
 case atStart => exact ⟨0,0,20,f,_,rfl,rfl,rfl,Nat.zero_le _,rfl,rfl,fun x hx => absurd hx (Nat.not_lt_zero x),HT.out,ImK.refl _ _ _,HS.out,But.of (Below.refl _ _) (Nat.le_of_lt HS.out.lt)⟩
 case round =>
  obtain ⟨k,a,b,g,wr,rfl,rfl,rfl,han,hba,HI⟩:=hrel
  by_cases hlt:b≤n
  ·have d1:decide (b≤n)=true:=decide_eq_true hlt
   have HC:=Lib.hid (ins_sort (cp:=cp) (a:=a) (b:=b) HI.out.2.2.2.2.1 hn (by omega) hlt (HI.out.2.2.1.mono (Nat.zero_le _) hlt))
   obtain ⟨c,hc⟩:∃ c,c=b + 20:=⟨_,rfl⟩
   have HCE:=Lib.hid hc
   have HB:=Lib.hid hba
   clear hba hc
   go_wp2_with first
    | (with_reducible refine Calls.mono HC.out ?_; rintro _ w1 ⟨rfl,g1,m1,m2,m3⟩; have HM:=Lib.hid (And.intro (blk_round HI.out.1 HB.out hlt HI.out.2.1 HI.out.2.2.1 HI.out.2.2.2.1 m1) (And.intro m2 (HI.out.2.2.2.2.2.trans m3))); clear m1 m2 m3)
    | fail
   go_roundw
   case rel => exact ⟨k + 1,b,c,g1,_,rfl,rfl,by first | rfl | (have:=HCE.out; congr 1 <;> omega),hlt,HCE.out,HM.out.1.1,HM.out.1.2.1,HM.out.1.2.2.1,HM.out.1.2.2.2,HM.out.2.1,HM.out.2.2⟩
   case measure => have:=HCE.out; have:=HB.out; simp [intOf]; omega
  ·have d1:decide (b≤n)=false:=decide_eq_false hlt
   have HC:=Lib.hid (ins_sort (cp:=cp) (a:=a) (b:=n) HI.out.2.2.2.2.1 hn han (Nat.le_refl _) (HI.out.2.2.1.mono (Nat.zero_le _) (Nat.le_refl _)))
   have HL:Hid (∀ {g1:Nat→Nat},MgK key g g1 a n→(∀ k,BlK key g1 n 20 k)∧StK key g1 0 n∧ImK f g1 0 n):=fun {g1} m1 => blk_last HI.out.1 han (by omega) HI.out.2.1 HI.out.2.2.1 HI.out.2.2.2.1 m1
   have HBU:Hid (But pb w wr):=HI.out.2.2.2.2.2
   clear hba HI hlt
   go_wp2_with first
    | (with_reducible refine Calls.mono HC.out ?_; rintro _ w1 ⟨rfl,g1,m1,m2,m3⟩; have HM:=Lib.hid (And.intro (HL.out m1) (And.intro m2 (HBU.out.trans m3))); clear m1 m2 m3)
    | fail
   clear HC HL HBU d1
   go_loopw [6,7,8,9] (fun Bv av bv mv wr => ∃ (B:Nat) (g:Nat→Nat) (wx:World),wx=wr∧Bv=.int .i64 B∧1≤B∧B < 2000000∧Hid ((∀ k,BlK key g n B k)∧StK key g 0 n∧ImK f g 0 n∧SrAt wr pb n lb N key g∧But pb w wr)) (fun Bv av bv mv _ => n + n + n - (intOf Bv).toNat)
   case atStart => exact ⟨20,g1,_,rfl,rfl,by omega,by omega,HM.out.1.1,HM.out.1.2.1,HM.out.1.2.2,HM.out.2.1,HM.out.2.2⟩
   case round =>
    obtain ⟨B,g2,wr,rfl,rfl,hB1,hB2,HI⟩:=hrel
    by_cases hlt:B < n
    ·have d2:decide (B < n)=true:=decide_eq_true hlt
     obtain ⟨C,hC⟩:∃ C,C=2 * B:=⟨_,rfl⟩
     have HC2:=Lib.hid hC
     have HEC:=Lib.hid (show 2 * (B:Int)=(C:Int) by omega)
     have hC3:C < 2000000:=by omega
     clear hC
     go_wp2
     (try simp only [HEC.out])
     go_loopw [7,8] (fun av bv wr => ∃ (k a b:Nat) (g:Nat→Nat) (wx:World),wx=wr∧av=.int .i64 a∧bv=.int .i64 b∧a≤n∧b=a + C∧Hid (a=k * (2 * B)∧BlK key g n (2 * B) k∧(∀ x,2 * k≤x→SdK key g (x * B) (min (x * B + B) n))∧StK key g 0 n∧ImK f g 0 n∧SrAt wr pb n lb N key g∧But pb w wr)) (fun av bv _ => n + C + 1 - (intOf bv).toNat)
     case atStart => exact ⟨0,0,C,g2,_,rfl,rfl,rfl,Nat.zero_le _,by omega,by omega,fun x hx => absurd hx (Nat.not_lt_zero x),fun x _ => HI.out.1 (x + 1) x (by omega),HI.out.2.1,HI.out.2.2.1,HI.out.2.2.2.1,HI.out.2.2.2.2⟩
     case round =>
      obtain ⟨k,a,b,g,wr,rfl,rfl,rfl,han,hba,HJ⟩:=hrel
      have HPP:=Lib.hid (pr_pre HJ.out.1 HJ.out.2.2.1)
      have HB2:=Lib.hid (show b=a + 2 * B by rw [hba,HC2.out])
      by_cases hlt2:b≤n
      ·have d3:decide (b≤n)=true:=decide_eq_true hlt2
       have hcall:=sym_merge (cp:=cp) hn (b - a) wr g a (a + B) b HJ.out.2.2.2.2.2.1 (Nat.le_refl _) (by omega) (by have:=HB2.out; omega) hlt2 (by have h1:=HPP.out.1; rw [show min (a + B) n=a + B by have:=HB2.out; omega] at h1; exact h1) (by have h1:=HPP.out.2; rw [show min (a + 2 * B) n=b by have:=HB2.out; omega] at h1; exact h1) (HJ.out.2.2.2.1.mono (Nat.zero_le _) hlt2)
       rw [show ((a + B:Nat):Int)=(a:Int) + (B:Int) by omega] at hcall
       have HC:=Lib.hid hcall
       obtain ⟨c,hc⟩:∃ c,c=b + C:=⟨_,rfl⟩
       have HCE:=Lib.hid hc
       have HB:=Lib.hid hba
       clear hba hc hcall HPP
       go_wp2_with first
        | ((with_reducible refine Calls.mono HC.out ?_); rintro _ w1 ⟨rfl,g3,m1,m2,m3⟩; have HM:=Lib.hid (And.intro (blk_round HJ.out.1 HB2.out hlt2 HJ.out.2.1 HJ.out.2.2.2.1 HJ.out.2.2.2.2.1 m1) (And.intro m2 (And.intro (HJ.out.2.2.2.2.2.2.trans m3) (pr_rest HJ.out.1 (Nat.le_of_eq HB2.out) HJ.out.2.2.1 m1)))); clear m1 m2 m3)
        | fail
       go_roundw
       case rel => exact ⟨k + 1,b,c,g3,_,rfl,rfl,by first | rfl | (have:=HCE.out; have:=HC2.out; congr 1 <;> omega),hlt2,HCE.out,HM.out.1.1,HM.out.1.2.1,HM.out.2.2.2,HM.out.1.2.2.1,HM.out.1.2.2.2,HM.out.2.1,HM.out.2.2.1⟩
       case measure => have:=HCE.out; have:=HB.out; simp [intOf]; omega
      ·have d3:decide (b≤n)=false:=decide_eq_false hlt2
       obtain ⟨m,hm⟩:∃ m,m=a + B:=⟨_,rfl⟩
       have HEM:=Lib.hid (show (a:Int) + (B:Int)=(m:Int) by omega)
       have HLAST:Hid (∀ {g1:Nat→Nat},MgK key g g1 a n→(∀ k,BlK key g1 n C k)∧StK key g1 0 n∧ImK f g1 0 n):=fun {g1} m1 => by
        rw [HC2.out]
        exact blk_last HJ.out.1 han (by have:=HB2.out; omega) HJ.out.2.1 HJ.out.2.2.2.1 HJ.out.2.2.2.2.1 m1
       have hst:StK key g a n:=HJ.out.2.2.2.1.mono (Nat.zero_le _) (Nat.le_refl _)
       have HEB:=Lib.hid (show (B:Int) * 2=(C:Int) by have:=HC2.out; omega)
       by_cases hmn:m < n
       ·have d4:decide (m < n)=true:=decide_eq_true hmn
        have HC:=Lib.hid (sym_merge (cp:=cp) hn (n - a) wr g a m n HJ.out.2.2.2.2.2.1 (Nat.le_refl _) (by omega) hmn (Nat.le_refl _) (by have h1:=HPP.out.1; rw [show min (a + B) n=m by omega] at h1; exact h1) (by have h1:=HPP.out.2; rw [show min (a + 2 * B) n=n by have:=HB2.out; omega,← hm] at h1; exact h1) hst)
        clear hm hba hst hlt2 HPP
        go_upto_region 14 with fail
        simp only [HEM.out]
        go_wp2_with first
         | ((with_reducible refine Calls.mono HC.out ?_); rintro _ w1 ⟨rfl,g3,m1,m2,m3⟩; have HM:=Lib.hid (And.intro (HLAST.out m1) (And.intro m2 (HJ.out.2.2.2.2.2.2.trans m3))); clear m1 m2 m3)
         | fail
        go_roundw
        case rel => exact ⟨C,g3,_,rfl,by first | rfl | (have:=HC2.out; congr 1 <;> omega),by have:=HC2.out; omega,hC3,HM.out.1.1,HM.out.1.2.1,HM.out.1.2.2,HM.out.2.1,HM.out.2.2⟩
        case measure => have:=HC2.out; simp [intOf]; omega
       ·have d4:decide (m < n)=false:=decide_eq_false hmn
        have HM:=Lib.hid (HLAST.out (MgK.same (by have h1:=HPP.out.1; rw [show min (a + B) n=n by omega] at h1; exact h1) hst))
        clear hm hba hst hlt2 HPP
        go_upto_region 14 with fail
        simp only [HEM.out]
        go_wp2
        go_roundw
        case rel => exact ⟨C,g,_,rfl,by first | rfl | (have:=HC2.out; congr 1 <;> omega),by have:=HC2.out; omega,hC3,HM.out.1,HM.out.2.1,HM.out.2.2,HJ.out.2.2.2.2.2.1,HJ.out.2.2.2.2.2.2⟩
        case measure => have:=HC2.out; simp [intOf]; omega
    ·have d2:decide (B < n)=false:=decide_eq_false hlt
     have HF:Hid (MgAt w pb n lb N key f 0 n (.returned (.tuple #[])) wr):=⟨rfl,g2,⟨HI.out.2.2.1,blk_all HI.out.1 (by omega),HI.out.2.1⟩,HI.out.2.2.2.1,HI.out.2.2.2.2⟩
     go_wp2
     first | go_end0 | go_ret
     exact HF.out
end
end
section
open Go.RowKit
section
variable {pb n cp lb N:Nat} {key:Nat→Int}
set_option maxRecDepth 20000 in
set_option maxHeartbeats 12800000 in
theorem sort_row (hn:n≤1000000) {w:World} {f:Nat→Nat} (h:SrAt w pb n lb N key f) (ht:StK key f 0 n) :
  Calls Try.prog 8 #[.slice (some ⟨pb,0,none⟩) n cp,(.func (.func 9) #[] #[.pointer (some ⟨lb,0,none⟩)])] w (MgAt w pb n lb N key f 0 n):=by
 have HC:=Lib.hid (stable_row (cp:=cp) hn h ht)
 clear h ht
 go_enter Try.func8,Try.ntmps8
 go_wp2_with first
  | ((with_reducible refine Calls.mono HC.out ?_); rintro _ w1 ⟨rfl,g3,m1,m2,m3⟩; have HM:Hid (MgAt w pb n lb N key f 0 n (.returned (.tuple #[])) w1):=⟨rfl,g3,m1,m2,m3⟩; clear m1 m2 m3)
  | fail
 first | go_end0 | go_ret
 exact HM.out
end
end
section
open Go.RowKit
section
variable {E:Nat→Prop} {w:World} {L A S1 Q bp bq P r S B n nv:Nat} {uv:Value} {lv:List Vl} {st:Nat→Int × Nat} {g:Nat→Nat→Pl} {G:Nat→Value} {R:Nat→Nat} {qv:Nat→Nat→Value} {qs:Nat→Nat→List Int}
theorem MdAll.grow {w':World} (h:MdAll E w L A S1 Q bp bq P r S B n nv uv lv st g G R qv qs) (hz:w.heap.size≤w'.heap.size) (hk:∀ b,b < w.heap.size→¬ E b→w'.heap[b]?=w.heap[b]?):MdAll (fun b => E b ∨ (w.heap.size≤b∧b < w'.heap.size)) w' L A S1 Q bp bq P r S B n nv uv lv st g G R qv qs:=by
 have h':=h.keepE hz hk
 obtain ⟨D,h1,h2,h3,h4,h5⟩:=h.bk
 have hbk:BkAt w' D bp bq S B n g:=h1.keep hz fun b hlt hc => hk b hlt (fun he => by
  rcases hc with rfl | rfl | hc
  ·exact (h5 _ he).2.1 rfl
  ·exact (h5 _ he).2.2.1 rfl
  ·exact hc (h5 b he).1)
 refine ⟨h'.md,h'.qu,h'.lbk,fun b => D b ∨ (w.heap.size≤b∧b < w'.heap.size),?_,fun b hd => ?_,.inl h3,fun b hc => ⟨.inl (h4 b hc).1,(h4 b hc).2⟩,fun b he => ?_⟩
 ·obtain ⟨k0,k1,k2,k3,k4,k5,k6,k9,k10⟩:=hbk
  obtain ⟨_,_,_,_,_,_,_,_,m10⟩:=h1
  refine ⟨k0,k1,k2,k3,k4,k5,k6,k9,fun a ha => ?_⟩
  obtain ⟨v0,hv0,hrow0⟩:=m10 a ha
  obtain ⟨v,hv,Ax,cap,e1,e2,e3,e4⟩:=k10 a ha
  refine ⟨v,hv,Ax,cap,e1,e2,e3,fun hn => ?_⟩
  obtain ⟨b,off,f1,f2,f3,f4⟩:=e4 hn
  refine ⟨b,off,f1,f2,fun hd => ?_,f4⟩
  rcases hd with hd | hd
  ·exact f3 hd
  ·obtain ⟨Ay,cay,y1,y2,y3,y4⟩:=hrow0
   obtain ⟨b',off',z1,z2,z3,z4⟩:=y4 hn
   have hq0:w'.cell? ⟨bq,a,none⟩=w.cell? ⟨bq,a,none⟩:=World.cell?_of_block (hk bq (h2 bq h3) (fun he => (h5 bq he).2.2.1 rfl))
   rw [hq0,hv0] at hv
   injection hv with hv
   rw [y1,e1] at hv
   injection hv with hv
   rw [z1,f1] at hv
   injection hv with hv
   injection hv with hv
   omega
 ·rcases hd with hd | hd
  ·exact Nat.lt_of_lt_of_le (h2 b hd) hz
  ·exact hd.2
 ·rcases he with he | he
  ·exact ⟨.inl (h5 b he).1,(h5 b he).2⟩
  ·refine ⟨.inr he,?_,?_,fun hc => ?_⟩
   ·have:=h1.1; omega
   ·have:=h1.2.1; omega
   ·have:=h2 b (h4 b hc).1; omega
end
end
section
open Go.RowKit
theorem within_fx {k:Nat} (hk:0 < k) (hk2:k≤5000) (x:Int):withinI ((1 + fx k x:Nat):Int) (k:Int)=true:=by
 have:=fx_lt hk x
 unfold withinI
 simp only [Bool.and_eq_true,decide_eq_true_eq]
 omega
theorem fix_good (lr:List Rl) (lv:List Vl) (P0 a b c t r:Int) (P S B n T G nv:Nat) (hP:P=2 + fx 7 P0) (hT:T=1 + fx 8 t) (hG:G=1 + fx 64 r) (hS:S=1 + fx 8 a) (hB:B=1 + fx 16 b) (hn:n=1 + fx 8 c) :
  planK (checkN (fixVs (allN P) lv (min nv 8)) P (min nv 8)) (decide ((P:Int)=P)) (!decide (P < P)) (rightS S B n && (withinI T 8 && withinI G 64))=0:=by
 have h0:=fx_lt (k:=7) (by omega) P0
 have h1:=fx_lt (k:=8) (by omega) a
 have h2:=fx_lt (k:=16) (by omega) b
 have h3:=fx_lt (k:=8) (by omega) c
 rw [fixVs_check lv (P:=P) (by omega) (by omega) (by omega)]
 have e1:rightS (S:Nat) (B:Nat) (n:Nat)=true:=by
  unfold rightS inB
  simp
  omega
 have e2:withinI (T:Nat) 8=true:=by rw [hT]; exact within_fx (k:=8) (by omega) (by omega) t
 have e3:withinI (G:Nat) 64=true:=by rw [hG]; exact within_fx (k:=64) (by omega) (by omega) r
 rw [e1,e2,e3]
 simp [planK]
theorem told_nil (w:World) (B:Nat):Sl w B 2 (.slice none 0 0) 0 (rlc []):=⟨rfl,none,0,rfl,Nat.le_refl _,Nat.zero_le _,fun h => absurd h (by omega)⟩
end
end Go.Proofs.Ytfekhdgjgjodlaa
