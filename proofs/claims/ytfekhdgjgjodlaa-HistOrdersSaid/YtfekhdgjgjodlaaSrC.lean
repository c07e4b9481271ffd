/-
  Words and contracts that a statement's proof rests on (SrC). No statement is proved here.
-/
import Derived.Test.YtfekhdgjgjodlaaSrB
set_option linter.unusedVariables false
set_option linter.unusedSimpArgs false
namespace Go.Proofs.Ytfekhdgjgjodlaa
open Go.RowKit
section
variable {w w':World} {pb n cp lb N a b:Nat} {key:Nat→Int} {f:Nat→Nat}
theorem cmp_lt {x y:Int} (h:x < y):decide (cmpN x y < 0)=true:=decide_eq_true ((cmpN_neg x y).2 h)
theorem cmp_ge {x y:Int} (h:¬ x < y):decide (cmpN x y < 0)=false:=decide_eq_false (fun e => h ((cmpN_neg x y).1 e))
set_option maxRecDepth 20000 in
set_option maxHeartbeats 6400000 in
theorem ins_sort (h:SrAt w pb n lb N key f) (hn:n≤1000000) (hab:a≤b) (hb:b≤n) (hst:StK key f a b) :
  Calls Try.prog 30 #[.slice (some ⟨pb,0,none⟩) n cp,.int .i64 (a:Nat),.int .i64 (b:Nat),(.func (.func 9) #[] #[.pointer (some ⟨lb,0,none⟩)])] w fun e w' => e=.returned (.tuple #[])∧∃ f',MgK key f f' a b∧SrAt w' pb n lb N key f'∧But pb w w':=by
 have HS:=Lib.hid h
 have HST:=Lib.hid hst
 clear h hst
 go_enter Try.func30,Try.ntmps30
 go_wp2
 go_loopw [8] (fun iv wr => ∃ (k:Nat) (f1:Nat→Nat) (wx:World),wx=wr∧iv=.int .i64 k∧a < k∧(k≤b ∨ k=a + 1)∧Hid (SdK key f1 a k∧StK key f1 a b∧ImK f f1 a b∧SrAt wr pb n lb N key f1∧But pb w wr)) (fun iv _ => b + 1 - (intOf iv).toNat)
 case atStart => exact ⟨a + 1,f,_,rfl,by go_num,by omega,by omega,fun p q p1 p2 p3 => absurd p3 (by omega),HST.out,ImK.refl _ _ _,HS.out,But.of (Below.refl _ _) (Nat.le_of_lt HS.out.lt)⟩
 case round =>
  obtain ⟨k,f1,wr,rfl,rfl,hak,hkb,HO⟩:=hrel
  by_cases hlt:k < b
  ·have d1:decide (k < b)=true:=decide_eq_true hlt
   go_wp2
   go_loopw [9] (fun jv wr2 => ∃ (j:Nat) (F:Nat→Nat) (wx:World),wx=wr2∧jv=.int .i64 j∧a≤j∧j≤k∧Hid (InK key F a k j∧StK key F a b∧ImK f F a b∧SrAt wr2 pb n lb N key F∧But pb w wr2)) (fun jv _ => (intOf jv).toNat)
   case atStart => exact ⟨k,f1,_,rfl,rfl,by omega,by omega,InK.start HO.out.1 (by omega),HO.out.2⟩
   case round =>
    obtain ⟨j,F,wq,rfl,rfl,hja,hjk,HI⟩:=hrel
    by_cases hgt:a < j
    ·obtain ⟨t,ht⟩:∃ t,j=t + 1:=⟨j - 1,by omega⟩
     have HT:Hid (j=t + 1):=ht
     have d2:decide (a < j)=true:=decide_eq_true hgt
     have s1:IntKind.i64.wrap ((j:Int) - 1)=(t:Int):=by rw [IntKind.wrap_i64]; omega
     have hjn:j < n:=by omega
     have htn:t < n:=by omega
     have htj:j ≠ t:=by omega
     clear ht
     by_cases hk:key (F j) < key (F t)
     ·have hc:=cmp_lt hk
      have HK:=Lib.hid hk
      clear hk
      go_wp2_with fail
      have c1:=HI.out.2.2.2.1.row.cell (i:=j) (by omega)
      have c2:=HI.out.2.2.2.1.row.cell (i:=t) (by omega)
      refine wp_region_held_drew (S:=fun w' => w'.cell? ⟨pb,j,none⟩=some (.int .i64 (F j:Nat))∧w'.cell? ⟨pb,t,none⟩=some (.int .i64 (F t:Nat))) (by kernel_rfl) ?_ (fun hHeld => ?_)
      ·exact ⟨c1,c2⟩
      obtain ⟨v0,hv0⟩:∃ w',w'=wq.drew:=⟨_,rfl⟩
      have hvb:Below wq.heap.size wq v0:=by rw [hv0]; exact (Below.refl _ _).drew
      have HR0:=Lib.hid (HI.out.2.2.2.1.call hvb)
      have HCC:=Lib.hid (hist_Order1 HR0.out.mks (F j) (F t) (HR0.out.mem _ (by omega)) (HR0.out.mem _ (by omega)))
      rw [← hv0] at hHeld ⊢
      clear hv0 c1 c2
      refine tkR 0 rfl ?_
      refine tkR 1 rfl ?_
      refine tkR 2 rfl ?_
      refine tkR 3 rfl ?_
      refine tkR 4 rfl ?_
      refine tkR 5 rfl ?_
      refine tkR 6 rfl ?_
      refine tkR 7 rfl ?_
      refine tkR 8 rfl ?_
      refine tkR 9 rfl ?_
      refine tkR 10 rfl ?_
      refine tkR 11 rfl ?_
      refine tkR 12 rfl ?_
      refine tkR 13 rfl ?_
      refine clR 14 rfl fun K hK => ?_
      go_simp
      refine Calls.mono HCC.out ?_
      rintro e w1 ⟨rfl,hb1⟩
      have hb01:Below wq.heap.size wq w1:=hvb.trans (hb1.mono hvb.size)
      have HSR:=Lib.hid (HI.out.2.2.2.1.call hb01)
      have HBU:Hid (But pb w w1):=HI.out.2.2.2.2.trans (But.of hb01 (Nat.le_of_lt HI.out.2.2.2.1.lt))
      have c1:=HSR.out.row.cell (i:=j) (by omega)
      have c2:=HSR.out.row.cell (i:=t) (by omega)
      clear hb1 hb01
      refine hK.out _ _ ?_ (fun hHeld => ?_)
      ·(try dsimp only)
       exact ⟨c1,c2⟩
      clear hK K
      refine tkR 15 rfl ?_
      refine tkR 16 rfl ?_
      refine wpAnyH_done (by kernel_rfl) ?_ _
      clear hHeld hvb c1 c2 HCC HR0
      have HIN:Hid (InK key (swK F j t) a k t∧StK key (swK F j t) a b∧ImK f (swK F j t) a b):=by
       have e:t=j - 1:=by have:=HT.out; omega
       have hk:=HK.out
       rw [e] at hk ⊢
       exact ⟨HI.out.1.swap hgt hjk hk,HI.out.2.1.swap hgt (by omega) hk,HI.out.2.2.1.trans (swK_im hja (by omega) (by omega) (by omega))⟩
      have HI:Hid (True∧SrAt w1 pb n lb N key F∧But pb w w1):=⟨trivial,HSR.out,HBU.out⟩
      clear HSR HBU HK hc
      have hXn:j < n:=hjn
      have hYn:t < n:=htn
      have hXYn:j ≠ t:=htj
      go_wp2_with fail
      refine wp_region_held_drew (S:=fun w' => True) (by kernel_rfl) ?_ (fun hHeld => ?_)
      ·trivial
      obtain ⟨v0,hv0⟩:∃ w',w'=w1.drew:=⟨_,rfl⟩
      have hvb:Below w1.heap.size w1 v0:=by rw [hv0]; exact (Below.refl _ _).drew
      have HR0:=Lib.hid (HI.out.2.1.call hvb)
      have HB0:Hid (But pb w v0):=HI.out.2.2.trans (But.of hvb (Nat.le_of_lt HI.out.2.1.lt))
      have cX:=HR0.out.row.cell hXn
      have cY:=HR0.out.row.cell hYn
      have fX:=HR0.out.row.frozen j
      rw [← hv0]
      clear hHeld
      have hHeld:True:=trivial
      clear hv0 hvb
      refine tkR 0 rfl ?_
      refine tkR 1 rfl ?_
      refine tkR 2 rfl ?_
      refine tkR 3 rfl ?_
      refine tkR 4 rfl ?_
      refine tkR 5 rfl ?_
      refine tkR 6 rfl ?_
      refine tkR 7 rfl ?_
      refine tkR 8 rfl ?_
      refine tkR 10 rfl ?_
      refine tkR 11 rfl ?_
      refine tkR 12 rfl ?_
      refine wpAnyH_ready (rs:=[9,13]) (by kernel_rfl) (by simp) ?_
      refine (acR rfl (fun K hK => ?_) (acR rfl (fun K hK => ?_) AllReadyH.nil))
      ·go_simp
       refine hK.out _ _ ?_ (fun hHeld => ?_)
       ·(try dsimp only)
        (try trivial)
       clear hK K
       (try simp only [Act.put,sqA,sqB,sqC])
       refine wpAnyH_ready (rs:=[13]) (by kernel_rfl) (by simp) ?_
       refine (acR rfl (fun K hK => ?_) AllReadyH.nil)
       go_simp
       refine hK.out _ _ ?_ (fun hHeld => ?_)
       ·(try dsimp only)
        (try trivial)
       clear hK K
       refine tkR 14 rfl ?_
       refine wpAnyH_ready (rs:=[15]) (by kernel_rfl) (by simp) ?_
       refine (acR rfl (fun K hK => ?_) AllReadyH.nil)
       go_simp
       refine hK.out _ _ ?_ (fun hHeld => ?_)
       ·(try dsimp only)
        (try trivial)
       clear hK K
       (try simp only [Act.put,sqA,sqB,sqC])
       obtain ⟨v1,hv1⟩:∃ x,x=v0.setCell ⟨pb,j,none⟩ (.int .i64 (F t:Nat)):=⟨_,rfl⟩
       have cY1:v1.cell? ⟨pb,t,none⟩=some (.int .i64 (F t:Nat)):=by rw [hv1]; exact ((HR0.out.row.set j _).cell hYn).trans (by show some (if t=j then _ else _)=_; rw [if_neg (Ne.symm hXYn)])
       have fY1:v1.frozen? ⟨pb,t,none⟩=false:=by rw [hv1]; exact (HR0.out.row.set j _).frozen _
       have HV1:=Lib.hid hv1
       rw [← hv1]
       clear hv1
       refine tkR 16 rfl ?_
       refine wpAnyH_ready (rs:=[17]) (by kernel_rfl) (by simp) ?_
       refine (acR rfl (fun K hK => ?_) AllReadyH.nil)
       go_simp
       refine hK.out _ _ ?_ (fun hHeld => ?_)
       ·(try dsimp only)
        (try trivial)
       clear hK K
       (try simp only [Act.put,sqA,sqB,sqC])
       obtain ⟨v2,hv2⟩:∃ x,x=v1.setCell ⟨pb,t,none⟩ (.int .i64 (F j:Nat)):=⟨_,rfl⟩
       have HS2:Hid (SrAt v2 pb n lb N key (swK F j t)∧But pb w v2):=by
        rw [hv2,HV1.out]
        exact ⟨HR0.out.swap hXn hYn hXYn,(HB0.out.trans (But.set _ _)).trans (But.set _ _)⟩
       rw [← hv2]
       clear hv2
       refine wpAnyH_done (by kernel_rfl) ?_ _
       go_wp2
       go_roundw
       case rel => exact ⟨t,_,_,rfl,by first | rfl | (have:=HT.out; congr 1; omega),by have:=HT.out; omega,by have:=HT.out; omega,Lib.hid ⟨HIN.out.1,HIN.out.2.1,HIN.out.2.2,HS2.out.1,HS2.out.2⟩⟩
       case measure => have:=HT.out; simp [intOf]; omega
      ·go_simp
       refine hK.out _ _ ?_ (fun hHeld => ?_)
       ·(try dsimp only)
        (try trivial)
       clear hK K
       (try simp only [Act.put,sqA,sqB,sqC])
       refine wpAnyH_ready (rs:=[9]) (by kernel_rfl) (by simp) ?_
       refine (acR rfl (fun K hK => ?_) AllReadyH.nil)
       go_simp
       refine hK.out _ _ ?_ (fun hHeld => ?_)
       ·(try dsimp only)
        (try trivial)
       clear hK K
       refine tkR 14 rfl ?_
       refine wpAnyH_ready (rs:=[15]) (by kernel_rfl) (by simp) ?_
       refine (acR rfl (fun K hK => ?_) AllReadyH.nil)
       go_simp
       refine hK.out _ _ ?_ (fun hHeld => ?_)
       ·(try dsimp only)
        (try trivial)
       clear hK K
       (try simp only [Act.put,sqA,sqB,sqC])
       obtain ⟨v1,hv1⟩:∃ x,x=v0.setCell ⟨pb,j,none⟩ (.int .i64 (F t:Nat)):=⟨_,rfl⟩
       have cY1:v1.cell? ⟨pb,t,none⟩=some (.int .i64 (F t:Nat)):=by rw [hv1]; exact ((HR0.out.row.set j _).cell hYn).trans (by show some (if t=j then _ else _)=_; rw [if_neg (Ne.symm hXYn)])
       have fY1:v1.frozen? ⟨pb,t,none⟩=false:=by rw [hv1]; exact (HR0.out.row.set j _).frozen _
       have HV1:=Lib.hid hv1
       rw [← hv1]
       clear hv1
       refine tkR 16 rfl ?_
       refine wpAnyH_ready (rs:=[17]) (by kernel_rfl) (by simp) ?_
       refine (acR rfl (fun K hK => ?_) AllReadyH.nil)
       go_simp
       refine hK.out _ _ ?_ (fun hHeld => ?_)
       ·(try dsimp only)
        (try trivial)
       clear hK K
       (try simp only [Act.put,sqA,sqB,sqC])
       obtain ⟨v2,hv2⟩:∃ x,x=v1.setCell ⟨pb,t,none⟩ (.int .i64 (F j:Nat)):=⟨_,rfl⟩
       have HS2:Hid (SrAt v2 pb n lb N key (swK F j t)∧But pb w v2):=by
        rw [hv2,HV1.out]
        exact ⟨HR0.out.swap hXn hYn hXYn,(HB0.out.trans (But.set _ _)).trans (But.set _ _)⟩
       rw [← hv2]
       clear hv2
       refine wpAnyH_done (by kernel_rfl) ?_ _
       go_wp2
       go_roundw
       case rel => exact ⟨t,_,_,rfl,by first | rfl | (have:=HT.out; congr 1; omega),by have:=HT.out; omega,by have:=HT.out; omega,Lib.hid ⟨HIN.out.1,HIN.out.2.1,HIN.out.2.2,HS2.out.1,HS2.out.2⟩⟩
       case measure => have:=HT.out; simp [intOf]; omega
     ·have hc:=cmp_ge hk
      have HK:=Lib.hid hk
      clear hk
      go_wp2_with fail
      have c1:=HI.out.2.2.2.1.row.cell (i:=j) (by omega)
      have c2:=HI.out.2.2.2.1.row.cell (i:=t) (by omega)
      refine wp_region_held_drew (S:=fun w' => w'.cell? ⟨pb,j,none⟩=some (.int .i64 (F j:Nat))∧w'.cell? ⟨pb,t,none⟩=some (.int .i64 (F t:Nat))) (by kernel_rfl) ?_ (fun hHeld => ?_)
      ·exact ⟨c1,c2⟩
      obtain ⟨v0,hv0⟩:∃ w',w'=wq.drew:=⟨_,rfl⟩
      have hvb:Below wq.heap.size wq v0:=by rw [hv0]; exact (Below.refl _ _).drew
      have HR0:=Lib.hid (HI.out.2.2.2.1.call hvb)
      have HCC:=Lib.hid (hist_Order1 HR0.out.mks (F j) (F t) (HR0.out.mem _ (by omega)) (HR0.out.mem _ (by omega)))
      rw [← hv0] at hHeld ⊢
      clear hv0 c1 c2
      refine tkR 0 rfl ?_
      refine tkR 1 rfl ?_
      refine tkR 2 rfl ?_
      refine tkR 3 rfl ?_
      refine tkR 4 rfl ?_
      refine tkR 5 rfl ?_
      refine tkR 6 rfl ?_
      refine tkR 7 rfl ?_
      refine tkR 8 rfl ?_
      refine tkR 9 rfl ?_
      refine tkR 10 rfl ?_
      refine tkR 11 rfl ?_
      refine tkR 12 rfl ?_
      refine tkR 13 rfl ?_
      refine clR 14 rfl fun K hK => ?_
      go_simp
      refine Calls.mono HCC.out ?_
      rintro e w1 ⟨rfl,hb1⟩
      have hb01:Below wq.heap.size wq w1:=hvb.trans (hb1.mono hvb.size)
      have HSR:=Lib.hid (HI.out.2.2.2.1.call hb01)
      have HBU:Hid (But pb w w1):=HI.out.2.2.2.2.trans (But.of hb01 (Nat.le_of_lt HI.out.2.2.2.1.lt))
      have c1:=HSR.out.row.cell (i:=j) (by omega)
      have c2:=HSR.out.row.cell (i:=t) (by omega)
      clear hb1 hb01
      refine hK.out _ _ ?_ (fun hHeld => ?_)
      ·(try dsimp only)
       exact ⟨c1,c2⟩
      clear hK K
      refine tkR 15 rfl ?_
      refine tkR 16 rfl ?_
      refine wpAnyH_done (by kernel_rfl) ?_ _
      clear hHeld hvb c1 c2 HCC HR0
      have HEN:Hid (SdK key F a (k + 1)):=InK.end HI.out.1 hja hjk (.inr (by have e:j - 1=t:=(by have:=HT.out; omega); rw [e]; have:=HK.out; omega))
      clear HK hc
      go_wp2
      go_roundw
      case rel => exact ⟨k + 1,F,_,rfl,by go_num,by omega,by omega,Lib.hid ⟨HEN.out,HI.out.2.1,HI.out.2.2.1,HSR.out,HBU.out⟩⟩
      case measure => simp [intOf]; omega
    ·have d2:decide (a < j)=false:=decide_eq_false hgt
     obtain rfl:j=a:=by omega
     have HEN:Hid (SdK key F j (k + 1)):=InK.end HI.out.1 hja hjk (.inl rfl)
     go_wp2_with fail
     refine wp_region_held_drew (S:=fun w' => True) (by kernel_rfl) ?_ (fun hHeld => ?_)
     ·trivial
     obtain ⟨v0,hv0⟩:∃ w',w'=wq.drew:=⟨_,rfl⟩
     have hvb:Below wq.heap.size wq v0:=by rw [hv0]; exact (Below.refl _ _).drew
     rw [← hv0]
     clear hv0
     refine tkR 0 rfl ?_
     refine tkR 1 rfl ?_
     refine tkR 2 rfl ?_
     refine tkR 3 rfl ?_
     refine skR 4 rfl ?_
     refine skR 5 rfl ?_
     refine skR 6 rfl ?_
     refine skR 7 rfl ?_
     refine skR 8 rfl ?_
     refine skR 9 rfl ?_
     refine skR 10 rfl ?_
     refine skR 11 rfl ?_
     refine skR 12 rfl ?_
     refine skR 13 rfl ?_
     refine skR 14 rfl ?_
     refine skR 15 rfl ?_
     refine tkR 16 rfl ?_
     refine wpAnyH_done (by kernel_rfl) ?_ _
     have HSR:=Lib.hid (HI.out.2.2.2.1.call hvb)
     have HBU:Hid (But pb w v0):=HI.out.2.2.2.2.trans (But.of hvb (Nat.le_of_lt HI.out.2.2.2.1.lt))
     clear hHeld hvb
     go_wp2
     go_roundw
     case rel => exact ⟨k + 1,F,_,rfl,by go_num,by omega,by omega,Lib.hid ⟨HEN.out,HI.out.2.1,HI.out.2.2.1,HSR.out,HBU.out⟩⟩
     case measure => simp [intOf]; omega
  ·have d1:decide (k < b)=false:=decide_eq_false hlt
   have HF:Hid (∃ f',MgK key f f' a b∧SrAt wr pb n lb N key f'∧But pb w wr):=⟨f1,⟨HO.out.2.2.1,HO.out.1.mono (Nat.le_refl _) (by omega),HO.out.2.1⟩,HO.out.2.2.2.1,HO.out.2.2.2.2⟩
   go_wp2
   go_end0
   exact ⟨rfl,HF.out⟩
end
end Go.Proofs.Ytfekhdgjgjodlaa
