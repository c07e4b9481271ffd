/-
  Words and contracts that a statement's proof rests on (SrB, SrC). No statement is proved here.
-/
import Derived.Test.YtfekhdgjgjodlaaGreatSrA
set_option linter.unusedVariables false
set_option linter.unusedSimpArgs false
namespace Go.Proofs.YtfekhdgjgjodlaaGreat
section
open Go.RowKit
structure SrAt (w:World) (pb n lb N:Nat) (key:Nat→Int) (f:Nat→Nat):Prop where
 row:rowH w pb 3 n (fun i => .int .i64 (f i:Nat))
 mks:MkAt w pb lb N key
 mem:∀ i,i < n→f i < N
section
variable {w w':World} {pb n cp lb N a b X Y:Nat} {key:Nat→Int} {f f':Nat→Nat}
theorem SrAt.call (h:SrAt w pb n lb N key f) (hb:Below w.heap.size w w'):SrAt w' pb n lb N key f :=
 ⟨h.row.of_block (hb.block _ h.row.lt),h.mks.but (But.of hb (Nat.le_of_lt h.row.lt)),h.mem⟩
theorem SrAt.lt (h:SrAt w pb n lb N key f):pb < w.heap.size:=h.row.lt
theorem swK_lt (h:∀ i,i < n→f i < N) (hX:X < n) (hY:Y < n):∀ i,i < n→swK f X Y i < N:=fun i hi => by
 unfold swK
 split
 ·exact h _ hY
 ·split
  ·exact h _ hX
  ·exact h i hi
theorem SrAt.swap (h:SrAt w pb n lb N key f) (hX:X < n) (hY:Y < n) (hXY:X ≠ Y):SrAt ((w.setCell ⟨pb,X,none⟩ (.int .i64 (f Y:Nat))).setCell ⟨pb,Y,none⟩ (.int .i64 (f X:Nat))) pb n lb N key (swK f X Y) :=
 ⟨((h.row.set X _).set Y _).congr fun i hi => (by
  show (if i=Y then Value.int .i64 (f X:Nat) else if i=X then Value.int .i64 (f Y:Nat) else Value.int .i64 (f i:Nat))=_
  unfold swK
  by_cases e:i=X
  ·subst e; rw [if_neg hXY,if_pos rfl,if_pos rfl]
  ·by_cases e2:i=Y
   ·subst e2; rw [if_pos rfl,if_neg e,if_pos rfl]
   ·rw [if_neg e2,if_neg e,if_neg e,if_neg e2]),(h.mks.but (But.set _ _)).but (But.set _ _),swK_lt h.mem hX hY⟩
set_option maxRecDepth 20000 in
set_option maxHeartbeats 3200000 in
theorem swap_range (h:SrAt w pb n lb N key f) (hn:n≤1000000) (m:Nat) (hab:a + m≤b) (hb:b + m≤n) :
  Calls Tryz.prog 135 #[.slice (some ⟨pb,0,none⟩) n cp,.int .i64 (a:Nat),.int .i64 (b:Nat),.int .i64 (m:Nat),(.func (.func 35) #[] #[.pointer (some ⟨lb,0,none⟩)])] w fun e w' => e=.returned (.tuple #[])∧SrAt w' pb n lb N key (srK f a b m)∧But pb w w':=by
 have HS:=Lib.hid h
 clear h
 go_enter Tryz.func135,Tryz.ntmps135
 go_wp2
 go_loopw [10] (fun iv wr => ∃ (k:Nat) (F:Nat→Nat),k≤m∧iv=.int .i64 k∧Hid (F=srK f a b k∧SrAt wr pb n lb N key F∧But pb w wr)) (fun iv _ => m - (intOf iv).toNat)
 case atStart => exact ⟨0,f,by omega,rfl,(srK_0 f a b).symm,HS.out,But.of (Below.refl _ _) (Nat.le_of_lt HS.out.lt)⟩
 case round =>
  obtain ⟨k,F,hk,rfl,HI⟩:=hrel
  by_cases hlt:k < m
  ·have d1:decide (k < m)=true:=decide_eq_true hlt
   obtain ⟨X,hX⟩:∃ X,X=a + k:=⟨_,rfl⟩
   obtain ⟨Y,hY⟩:∃ Y,Y=b + k:=⟨_,rfl⟩
   have HXY:Hid (X=a + k∧Y=b + k):=⟨hX,hY⟩
   have s1:IntKind.i64.wrap ((a:Int) + (k:Int))=(X:Int):=by rw [IntKind.wrap_i64]; omega
   have s2:IntKind.i64.wrap ((b:Int) + (k:Int))=(Y:Int):=by rw [IntKind.wrap_i64]; omega
   have hXn:X < n:=by omega
   have hYn:Y < n:=by omega
   have hXYn:X ≠ Y:=by omega
   clear hX hY
   go_wp2_with fail
   refine wp_region_held_drew (S:=fun w' => True) (by kernel_rfl) ?_ (fun hHeld => ?_)
   ·trivial
   obtain ⟨v0,hv0⟩:∃ w',w'=wr.drew:=⟨_,rfl⟩
   have hvb:Below wr.heap.size wr v0:=by rw [hv0]; exact (Below.refl _ _).drew
   have HR0:=Lib.hid (HI.out.2.1.call hvb)
   have HB0:Hid (But pb w v0):=HI.out.2.2.trans (But.of hvb (Nat.le_of_lt HI.out.2.1.lt))
   have cX:=HR0.out.row.cell hXn
   have cY:=HR0.out.row.cell hYn
   have fX:=HR0.out.row.frozen X
   rw [← hv0]
   clear hHeld
   have hHeld:True:=trivial
   clear hv0 hvb
   refine tkR 0 rfl ?_
   refine tkR 1 rfl ?_
   refine tkR 2 rfl ?_
   refine tkR 3 rfl ?_
   refine tkR 4 rfl ?_
   refine tkR 5 rfl ?_
   refine tkR 6 rfl ?_
   refine tkR 7 rfl ?_
   refine tkR 8 rfl ?_
   refine tkR 9 rfl ?_
   refine tkR 10 rfl ?_
   refine tkR 11 rfl ?_
   refine tkR 12 rfl ?_
   refine tkR 14 rfl ?_
   refine tkR 15 rfl ?_
   refine tkR 16 rfl ?_
   refine tkR 17 rfl ?_
   refine tkR 18 rfl ?_
   refine wpAnyH_ready (rs:=[13,19]) (by kernel_rfl) (by simp) ?_
   refine (acR rfl (fun K hK => ?_) (acR rfl (fun K hK => ?_) AllReadyH.nil))
   ·go_simp
    refine hK.out _ _ ?_ (fun hHeld => ?_)
    ·(try dsimp only)
     (try trivial)
    clear hK K
    (try simp only [Act.put,sqA,sqB,sqC])
    refine wpAnyH_ready (rs:=[19]) (by kernel_rfl) (by simp) ?_
    refine (acR rfl (fun K hK => ?_) AllReadyH.nil)
    go_simp
    refine hK.out _ _ ?_ (fun hHeld => ?_)
    ·(try dsimp only)
     (try trivial)
    clear hK K
    refine tkR 20 rfl ?_
    refine wpAnyH_ready (rs:=[21]) (by kernel_rfl) (by simp) ?_
    refine (acR rfl (fun K hK => ?_) AllReadyH.nil)
    go_simp
    refine hK.out _ _ ?_ (fun hHeld => ?_)
    ·(try dsimp only)
     (try trivial)
    clear hK K
    (try simp only [Act.put,sqA,sqB,sqC])
    obtain ⟨v1,hv1⟩:∃ x,x=v0.setCell ⟨pb,X,none⟩ (.int .i64 (F Y:Nat)):=⟨_,rfl⟩
    have cY1:v1.cell? ⟨pb,Y,none⟩=some (.int .i64 (F Y:Nat)):=by rw [hv1]; exact ((HR0.out.row.set X _).cell hYn).trans (by show some (if Y=X then _ else _)=_; rw [if_neg (Ne.symm hXYn)])
    have fY1:v1.frozen? ⟨pb,Y,none⟩=false:=by rw [hv1]; exact (HR0.out.row.set X _).frozen _
    have HV1:=Lib.hid hv1
    rw [← hv1]
    clear hv1
    refine tkR 22 rfl ?_
    refine wpAnyH_ready (rs:=[23]) (by kernel_rfl) (by simp) ?_
    refine (acR rfl (fun K hK => ?_) AllReadyH.nil)
    go_simp
    refine hK.out _ _ ?_ (fun hHeld => ?_)
    ·(try dsimp only)
     (try trivial)
    clear hK K
    (try simp only [Act.put,sqA,sqB,sqC])
    obtain ⟨v2,hv2⟩:∃ x,x=v1.setCell ⟨pb,Y,none⟩ (.int .i64 (F X:Nat)):=⟨_,rfl⟩
    have HS2:Hid (SrAt v2 pb n lb N key (swK F X Y)∧But pb w v2):=by
     rw [hv2,HV1.out]
     exact ⟨HR0.out.swap hXn hYn hXYn,(HB0.out.trans (But.set _ _)).trans (But.set _ _)⟩
    rw [← hv2]
    clear hv2
    refine wpAnyH_done (by kernel_rfl) ?_ _
    go_wp2
    go_roundw
    case rel => exact ⟨k + 1,_,by omega,by go_num,Lib.hid ⟨(by rw [HI.out.1,HXY.out.1,HXY.out.2]; exact srK_succ (by omega)),HS2.out.1,HS2.out.2⟩⟩
    case measure => simp [intOf]; omega
   ·go_simp
    refine hK.out _ _ ?_ (fun hHeld => ?_)
    ·(try dsimp only)
     (try trivial)
    clear hK K
    (try simp only [Act.put,sqA,sqB,sqC])
    refine wpAnyH_ready (rs:=[13]) (by kernel_rfl) (by simp) ?_
    refine (acR rfl (fun K hK => ?_) AllReadyH.nil)
    go_simp
    refine hK.out _ _ ?_ (fun hHeld => ?_)
    ·(try dsimp only)
     (try trivial)
    clear hK K
    refine tkR 20 rfl ?_
    refine wpAnyH_ready (rs:=[21]) (by kernel_rfl) (by simp) ?_
    refine (acR rfl (fun K hK => ?_) AllReadyH.nil)
    go_simp
    refine hK.out _ _ ?_ (fun hHeld => ?_)
    ·(try dsimp only)
     (try trivial)
    clear hK K
    (try simp only [Act.put,sqA,sqB,sqC])
    obtain ⟨v1,hv1⟩:∃ x,x=v0.setCell ⟨pb,X,none⟩ (.int .i64 (F Y:Nat)):=⟨_,rfl⟩
    have cY1:v1.cell? ⟨pb,Y,none⟩=some (.int .i64 (F Y:Nat)):=by rw [hv1]; exact ((HR0.out.row.set X _).cell hYn).trans (by show some (if Y=X then _ else _)=_; rw [if_neg (Ne.symm hXYn)])
    have fY1:v1.frozen? ⟨pb,Y,none⟩=false:=by rw [hv1]; exact (HR0.out.row.set X _).frozen _
    have HV1:=Lib.hid hv1
    rw [← hv1]
    clear hv1
    refine tkR 22 rfl ?_
    refine wpAnyH_ready (rs:=[23]) (by kernel_rfl) (by simp) ?_
    refine (acR rfl (fun K hK => ?_) AllReadyH.nil)
    go_simp
    refine hK.out _ _ ?_ (fun hHeld => ?_)
    ·(try dsimp only)
     (try trivial)
    clear hK K
    (try simp only [Act.put,sqA,sqB,sqC])
    obtain ⟨v2,hv2⟩:∃ x,x=v1.setCell ⟨pb,Y,none⟩ (.int .i64 (F X:Nat)):=⟨_,rfl⟩
    have HS2:Hid (SrAt v2 pb n lb N key (swK F X Y)∧But pb w v2):=by
     rw [hv2,HV1.out]
     exact ⟨HR0.out.swap hXn hYn hXYn,(HB0.out.trans (But.set _ _)).trans (But.set _ _)⟩
    rw [← hv2]
    clear hv2
    refine wpAnyH_done (by kernel_rfl) ?_ _
    go_wp2
    go_roundw
    case rel => exact ⟨k + 1,_,by omega,by go_num,Lib.hid ⟨(by rw [HI.out.1,HXY.out.1,HXY.out.2]; exact srK_succ (by omega)),HS2.out.1,HS2.out.2⟩⟩
    case measure => simp [intOf]; omega
  ·have d1:decide (k < m)=false:=decide_eq_false hlt
   obtain rfl:k=m:=by omega
   have HF:=Lib.hid HI.out.2
   have hF:=HI.out.1
   rw [hF] at HF
   clear hF
   go_wp2
   go_end0
   exact ⟨rfl,HF.out.1,HF.out.2⟩
set_option maxRecDepth 20000 in
set_option maxHeartbeats 3200000 in
theorem rotate_row (h:SrAt w pb n lb N key f) (hn:n≤1000000) (m:Nat) (ham:a < m) (hmb:m < b) (hb:b≤n) :
  Calls Tryz.prog 118 #[.slice (some ⟨pb,0,none⟩) n cp,.int .i64 (a:Nat),.int .i64 (m:Nat),.int .i64 (b:Nat),(.func (.func 35) #[] #[.pointer (some ⟨lb,0,none⟩)])] w fun e w' => e=.returned (.tuple #[])∧SrAt w' pb n lb N key (roK f a m b)∧But pb w w':=by
 obtain ⟨g,hg⟩:∃ g,g=roK f a m b:=⟨_,rfl⟩
 have HG:=Lib.hid hg
 have HS:=Lib.hid h
 have HRO:Hid (RoI f g m (m - a) (b - m)):=by rw [hg]; exact RoI.start (by omega) (by omega)
 rw [← hg]
 clear h hg
 have HSW:=Lib.hid fun (w1:World) (F:Nat→Nat) (h:SrAt w1 pb n lb N key F) (x y k:Nat) (h1:x + k≤y) (h2:y + k≤n) => swap_range (cp:=cp) (a:=x) (b:=y) h hn k h1 h2
 obtain ⟨i0,hi0⟩:∃ i,i=m - a:=⟨_,rfl⟩
 obtain ⟨j0,hj0⟩:∃ j,j=b - m:=⟨_,rfl⟩
 have HIJ:Hid (i0=m - a∧j0=b - m∧0 < i0∧0 < j0∧i0≤m∧m + j0≤n):=⟨hi0,hj0,by omega,by omega,by omega,by omega⟩
 rw [← hi0,← hj0] at HRO
 clear hi0 hj0
 go_enter Tryz.func118,Tryz.ntmps118
 go_wp2
 go_loopw [10,11] (fun iv jv wr => ∃ (i j:Nat) (F:Nat→Nat) (wx:World),wx=wr∧iv=.int .i64 i∧jv=.int .i64 j∧0 < i∧0 < j∧i≤m∧m + j≤n∧Hid (RoI F g m i j∧SrAt wr pb n lb N key F∧But pb w wr)) (fun iv jv _ => (intOf iv).toNat + (intOf jv).toNat)
 case atStart => exact ⟨i0,j0,f,_,rfl,by have:=HIJ.out; congr 1; omega,by have:=HIJ.out; congr 1; omega,HIJ.out.2.2.1,HIJ.out.2.2.2.1,HIJ.out.2.2.2.2.1,HIJ.out.2.2.2.2.2,HRO.out,HS.out,But.of (Below.refl _ _) (Nat.le_of_lt HS.out.lt)⟩
 case round =>
  obtain ⟨i,j,F,wr,rfl,rfl,rfl,hi0,hj0,him,hjn,HI⟩:=hrel
  rcases Nat.lt_trichotomy i j with hlt | rfl | hlt
  ·have d1:((i:Int) != (j:Int))=true:=by simp; omega
   have d2:decide (j < i)=false:=decide_eq_false (by omega)
   have d3:¬ i=j:=by omega
   obtain ⟨x,hx⟩:∃ x,x=m - i:=⟨_,rfl⟩
   obtain ⟨y,hy⟩:∃ y,y=m + j - i:=⟨_,rfl⟩
   obtain ⟨z,hz⟩:∃ z,z=j - i:=⟨_,rfl⟩
   have E1:=Lib.hid (show ((m:Int) - (i:Int))=(x:Int) by omega)
   have E2:=Lib.hid (show ((m:Int) + (j:Int) - (i:Int))=(y:Int) by omega)
   have hsw:=HSW.out wr F HI.out.2.1 x y i (by omega) (by omega)
   have HRL:=HI.out.1.less hlt
   rw [← hx,← hy,← hz] at HRL
   have HRL:=Lib.hid HRL
   have HSW1:=Lib.hid hsw
   have HZ:Hid (0 < z∧m + z≤n∧z < j∧(j:Int) - (i:Int)=(z:Int)):=⟨by omega,by omega,by omega,by omega⟩
   clear hsw hx hy hz hlt
   go_wp2_with (first
    | (go_at_call 135; (try simp only [E1.out,E2.out]); (with_reducible refine Calls.mono HSW1.out ?_); rintro e w1 ⟨rfl,h1,h2⟩; (have H1:=Lib.hid (And.intro h1 (HI.out.2.2.trans h2))); clear h1 h2)
    | fail)
   go_roundw
   case rel => exact ⟨i,z,_,_,rfl,rfl,by first | (rw [HZ.out.2.2.2]) | (congr 1; exact HZ.out.2.2.2) | go_num,hi0,HZ.out.1,him,HZ.out.2.1,Lib.hid ⟨HRL.out,H1.out.1,H1.out.2⟩⟩
   case measure => have:=HZ.out.2.2.1; have:=HZ.out.2.2.2; simp [intOf]; omega
  ·have d1:((i:Int) != (i:Int))=false:=by simp
   obtain ⟨x,hx⟩:∃ x,x=m - i:=⟨_,rfl⟩
   have E1:=Lib.hid (show ((m:Int) - (i:Int))=(x:Int) by omega)
   have hsw:=HSW.out wr F HI.out.2.1 x m i (by omega) (by omega)
   have HRE:=HI.out.1.end
   rw [← hx] at HRE
   rw [HRE] at hsw
   have HSW1:=Lib.hid hsw
   clear hsw hx HRE
   go_wp2_with (first
    | (go_at_call 135; (try simp only [E1.out]); (with_reducible refine Calls.mono HSW1.out ?_); rintro e w1 ⟨rfl,h1,h2⟩; (have H1:=Lib.hid (And.intro h1 (HI.out.2.2.trans h2))); clear h1 h2)
    | fail)
   go_end0
   exact ⟨rfl,H1.out.1,H1.out.2⟩
  ·have d1:((i:Int) != (j:Int))=true:=by simp; omega
   have d2:decide (j < i)=true:=decide_eq_true (by omega)
   have d3:¬ i=j:=by omega
   obtain ⟨x,hx⟩:∃ x,x=m - i:=⟨_,rfl⟩
   obtain ⟨z,hz⟩:∃ z,z=i - j:=⟨_,rfl⟩
   have E1:=Lib.hid (show ((m:Int) - (i:Int))=(x:Int) by omega)
   have hsw:=HSW.out wr F HI.out.2.1 x m j (by omega) (by omega)
   have HRL:=HI.out.1.more hlt
   rw [← hx,← hz] at HRL
   have HRL:=Lib.hid HRL
   have HSW1:=Lib.hid hsw
   have HZ:Hid (0 < z∧z≤m∧z < i∧(i:Int) - (j:Int)=(z:Int)):=⟨by omega,by omega,by omega,by omega⟩
   clear hsw hx hz hlt
   go_wp2_with (first
    | (go_at_call 135; (try simp only [E1.out]); (with_reducible refine Calls.mono HSW1.out ?_); rintro e w1 ⟨rfl,h1,h2⟩; (have H1:=Lib.hid (And.intro h1 (HI.out.2.2.trans h2))); clear h1 h2)
    | fail)
   go_roundw
   case rel => exact ⟨z,j,_,_,rfl,by first | (rw [HZ.out.2.2.2]) | (congr 1; exact HZ.out.2.2.2) | go_num,rfl,HZ.out.1,hj0,HZ.out.2.1,hjn,Lib.hid ⟨HRL.out,H1.out.1,H1.out.2⟩⟩
   case measure => have:=HZ.out.2.2.1; have:=HZ.out.2.2.2; simp [intOf]; omega
end
end
section
open Go.RowKit
section
variable {w w':World} {pb n cp lb N a b:Nat} {key:Nat→Int} {f:Nat→Nat}
theorem cmp_lt {x y:Int} (h:x < y):decide (cmpN x y < 0)=true:=decide_eq_true ((cmpN_neg x y).2 h)
theorem cmp_ge {x y:Int} (h:¬ x < y):decide (cmpN x y < 0)=false:=decide_eq_false (fun e => h ((cmpN_neg x y).1 e))
set_option maxRecDepth 20000 in
set_option maxHeartbeats 6400000 in
theorem ins_sort (h:SrAt w pb n lb N key f) (hn:n≤1000000) (hab:a≤b) (hb:b≤n) (hst:StK key f a b) :
  Calls Tryz.prog 96 #[.slice (some ⟨pb,0,none⟩) n cp,.int .i64 (a:Nat),.int .i64 (b:Nat),(.func (.func 35) #[] #[.pointer (some ⟨lb,0,none⟩)])] w fun e w' => e=.returned (.tuple #[])∧∃ f',MgK key f f' a b∧SrAt w' pb n lb N key f'∧But pb w w':=by
 have HS:=Lib.hid h
 have HST:=Lib.hid hst
 clear h hst
 go_enter Tryz.func96,Tryz.ntmps96
 go_wp2
 go_loopw [8] (fun iv wr => ∃ (k:Nat) (f1:Nat→Nat) (wx:World),wx=wr∧iv=.int .i64 k∧a < k∧(k≤b ∨ k=a + 1)∧Hid (SdK key f1 a k∧StK key f1 a b∧ImK f f1 a b∧SrAt wr pb n lb N key f1∧But pb w wr)) (fun iv _ => b + 1 - (intOf iv).toNat)
 case atStart => exact ⟨a + 1,f,_,rfl,by go_num,by omega,by omega,fun p q p1 p2 p3 => absurd p3 (by omega),HST.out,ImK.refl _ _ _,HS.out,But.of (Below.refl _ _) (Nat.le_of_lt HS.out.lt)⟩
 case round =>
  obtain ⟨k,f1,wr,rfl,rfl,hak,hkb,HO⟩:=hrel
  by_cases hlt:k < b
  ·have d1:decide (k < b)=true:=decide_eq_true hlt
   go_wp2
   go_loopw [9] (fun jv wr2 => ∃ (j:Nat) (F:Nat→Nat) (wx:World),wx=wr2∧jv=.int .i64 j∧a≤j∧j≤k∧Hid (InK key F a k j∧StK key F a b∧ImK f F a b∧SrAt wr2 pb n lb N key F∧But pb w wr2)) (fun jv _ => (intOf jv).toNat)
   case atStart => exact ⟨k,f1,_,rfl,rfl,by omega,by omega,InK.start HO.out.1 (by omega),HO.out.2⟩
   case round =>
    obtain ⟨j,F,wq,rfl,rfl,hja,hjk,HI⟩:=hrel
    by_cases hgt:a < j
    ·obtain ⟨t,ht⟩:∃ t,j=t + 1:=⟨j - 1,by omega⟩
     have HT:Hid (j=t + 1):=ht
     have d2:decide (a < j)=true:=decide_eq_true hgt
     have s1:IntKind.i64.wrap ((j:Int) - 1)=(t:Int):=by rw [IntKind.wrap_i64]; omega
     have hjn:j < n:=by omega
     have htn:t < n:=by omega
     have htj:j ≠ t:=by omega
     clear ht
     by_cases hk:key (F j) < key (F t)
     ·have hc:=cmp_lt hk
      have HK:=Lib.hid hk
      clear hk
      go_wp2_with fail
      have c1:=HI.out.2.2.2.1.row.cell (i:=j) (by omega)
      have c2:=HI.out.2.2.2.1.row.cell (i:=t) (by omega)
      refine wp_region_held_drew (S:=fun w' => w'.cell? ⟨pb,j,none⟩=some (.int .i64 (F j:Nat))∧w'.cell? ⟨pb,t,none⟩=some (.int .i64 (F t:Nat))) (by kernel_rfl) ?_ (fun hHeld => ?_)
      ·exact ⟨c1,c2⟩
      obtain ⟨v0,hv0⟩:∃ w',w'=wq.drew:=⟨_,rfl⟩
      have hvb:Below wq.heap.size wq v0:=by rw [hv0]; exact (Below.refl _ _).drew
      have HR0:=Lib.hid (HI.out.2.2.2.1.call hvb)
      have HCC:=Lib.hid (hist_Order1 HR0.out.mks (F j) (F t) (HR0.out.mem _ (by omega)) (HR0.out.mem _ (by omega)))
      rw [← hv0] at hHeld ⊢
      clear hv0 c1 c2
      refine tkR 0 rfl ?_
      refine tkR 1 rfl ?_
      refine tkR 2 rfl ?_
      refine tkR 3 rfl ?_
      refine tkR 4 rfl ?_
      refine tkR 5 rfl ?_
      refine tkR 6 rfl ?_
      refine tkR 7 rfl ?_
      refine tkR 8 rfl ?_
      refine tkR 9 rfl ?_
      refine tkR 10 rfl ?_
      refine tkR 11 rfl ?_
      refine tkR 12 rfl ?_
      refine tkR 13 rfl ?_
      refine clR 14 rfl fun K hK => ?_
      go_simp
      refine Calls.mono HCC.out ?_
      rintro e w1 ⟨rfl,hb1⟩
      have hb01:Below wq.heap.size wq w1:=hvb.trans (hb1.mono hvb.size)
      have HSR:=Lib.hid (HI.out.2.2.2.1.call hb01)
      have HBU:Hid (But pb w w1):=HI.out.2.2.2.2.trans (But.of hb01 (Nat.le_of_lt HI.out.2.2.2.1.lt))
      have c1:=HSR.out.row.cell (i:=j) (by omega)
      have c2:=HSR.out.row.cell (i:=t) (by omega)
      clear hb1 hb01
      refine hK.out _ _ ?_ (fun hHeld => ?_)
      ·(try dsimp only)
       exact ⟨c1,c2⟩
      clear hK K
      refine tkR 15 rfl ?_
      refine tkR 16 rfl ?_
      refine wpAnyH_done (by kernel_rfl) ?_ _
      clear hHeld hvb c1 c2 HCC HR0
      have HIN:Hid (InK key (swK F j t) a k t∧StK key (swK F j t) a b∧ImK f (swK F j t) a b):=by
       have e:t=j - 1:=by have:=HT.out; omega
       have hk:=HK.out
       rw [e] at hk ⊢
       exact ⟨HI.out.1.swap hgt hjk hk,HI.out.2.1.swap hgt (by omega) hk,HI.out.2.2.1.trans (swK_im hja (by omega) (by omega) (by omega))⟩
      have HI:Hid (True∧SrAt w1 pb n lb N key F∧But pb w w1):=⟨trivial,HSR.out,HBU.out⟩
      clear HSR HBU HK hc
      have hXn:j < n:=hjn
      have hYn:t < n:=htn
      have hXYn:j ≠ t:=htj
      go_wp2_with fail
      refine wp_region_held_drew (S:=fun w' => True) (by kernel_rfl) ?_ (fun hHeld => ?_)
      ·trivial
      obtain ⟨v0,hv0⟩:∃ w',w'=w1.drew:=⟨_,rfl⟩
      have hvb:Below w1.heap.size w1 v0:=by rw [hv0]; exact (Below.refl _ _).drew
      have HR0:=Lib.hid (HI.out.2.1.call hvb)
      have HB0:Hid (But pb w v0):=HI.out.2.2.trans (But.of hvb (Nat.le_of_lt HI.out.2.1.lt))
      have cX:=HR0.out.row.cell hXn
      have cY:=HR0.out.row.cell hYn
      have fX:=HR0.out.row.frozen j
      rw [← hv0]
      clear hHeld
      have hHeld:True:=trivial
      clear hv0 hvb
      refine tkR 0 rfl ?_
      refine tkR 1 rfl ?_
      refine tkR 2 rfl ?_
      refine tkR 3 rfl ?_
      refine tkR 4 rfl ?_
      refine tkR 5 rfl ?_
      refine tkR 6 rfl ?_
      refine tkR 7 rfl ?_
      refine tkR 8 rfl ?_
      refine tkR 10 rfl ?_
      refine tkR 11 rfl ?_
      refine tkR 12 rfl ?_
      refine wpAnyH_ready (rs:=[9,13]) (by kernel_rfl) (by simp) ?_
      refine (acR rfl (fun K hK => ?_) (acR rfl (fun K hK => ?_) AllReadyH.nil))
      ·go_simp
       refine hK.out _ _ ?_ (fun hHeld => ?_)
       ·(try dsimp only)
        (try trivial)
       clear hK K
       (try simp only [Act.put,sqA,sqB,sqC])
       refine wpAnyH_ready (rs:=[13]) (by kernel_rfl) (by simp) ?_
       refine (acR rfl (fun K hK => ?_) AllReadyH.nil)
       go_simp
       refine hK.out _ _ ?_ (fun hHeld => ?_)
       ·(try dsimp only)
        (try trivial)
       clear hK K
       refine tkR 14 rfl ?_
       refine wpAnyH_ready (rs:=[15]) (by kernel_rfl) (by simp) ?_
       refine (acR rfl (fun K hK => ?_) AllReadyH.nil)
       go_simp
       refine hK.out _ _ ?_ (fun hHeld => ?_)
       ·(try dsimp only)
        (try trivial)
       clear hK K
       (try simp only [Act.put,sqA,sqB,sqC])
       obtain ⟨v1,hv1⟩:∃ x,x=v0.setCell ⟨pb,j,none⟩ (.int .i64 (F t:Nat)):=⟨_,rfl⟩
       have cY1:v1.cell? ⟨pb,t,none⟩=some (.int .i64 (F t:Nat)):=by rw [hv1]; exact ((HR0.out.row.set j _).cell hYn).trans (by show some (if t=j then _ else _)=_; rw [if_neg (Ne.symm hXYn)])
       have fY1:v1.frozen? ⟨pb,t,none⟩=false:=by rw [hv1]; exact (HR0.out.row.set j _).frozen _
       have HV1:=Lib.hid hv1
       rw [← hv1]
       clear hv1
       refine tkR 16 rfl ?_
       refine wpAnyH_ready (rs:=[17]) (by kernel_rfl) (by simp) ?_
       refine (acR rfl (fun K hK => ?_) AllReadyH.nil)
       go_simp
       refine hK.out _ _ ?_ (fun hHeld => ?_)
       ·(try dsimp only)
        (try trivial)
       clear hK K
       (try simp only [Act.put,sqA,sqB,sqC])
       obtain ⟨v2,hv2⟩:∃ x,x=v1.setCell ⟨pb,t,none⟩ (.int .i64 (F j:Nat)):=⟨_,rfl⟩
       have HS2:Hid (SrAt v2 pb n lb N key (swK F j t)∧But pb w v2):=by
        rw [hv2,HV1.out]
        exact ⟨HR0.out.swap hXn hYn hXYn,(HB0.out.trans (But.set _ _)).trans (But.set _ _)⟩
       rw [← hv2]
       clear hv2
       refine wpAnyH_done (by kernel_rfl) ?_ _
       go_wp2
       go_roundw
       case rel => exact ⟨t,_,_,rfl,by first | rfl | (have:=HT.out; congr 1; omega),by have:=HT.out; omega,by have:=HT.out; omega,Lib.hid ⟨HIN.out.1,HIN.out.2.1,HIN.out.2.2,HS2.out.1,HS2.out.2⟩⟩
       case measure => have:=HT.out; simp [intOf]; omega
      ·go_simp
       refine hK.out _ _ ?_ (fun hHeld => ?_)
       ·(try dsimp only)
        (try trivial)
       clear hK K
       (try simp only [Act.put,sqA,sqB,sqC])
       refine wpAnyH_ready (rs:=[9]) (by kernel_rfl) (by simp) ?_
       refine (acR rfl (fun K hK => ?_) AllReadyH.nil)
       go_simp
       refine hK.out _ _ ?_ (fun hHeld => ?_)
       ·(try dsimp only)
        (try trivial)
       clear hK K
       refine tkR 14 rfl ?_
       refine wpAnyH_ready (rs:=[15]) (by kernel_rfl) (by simp) ?_
       refine (acR rfl (fun K hK => ?_) AllReadyH.nil)
       go_simp
       refine hK.out _ _ ?_ (fun hHeld => ?_)
       ·(try dsimp only)
        (try trivial)
       clear hK K
       (try simp only [Act.put,sqA,sqB,sqC])
       obtain ⟨v1,hv1⟩:∃ x,x=v0.setCell ⟨pb,j,none⟩ (.int .i64 (F t:Nat)):=⟨_,rfl⟩
       have cY1:v1.cell? ⟨pb,t,none⟩=some (.int .i64 (F t:Nat)):=by rw [hv1]; exact ((HR0.out.row.set j _).cell hYn).trans (by show some (if t=j then _ else _)=_; rw [if_neg (Ne.symm hXYn)])
       have fY1:v1.frozen? ⟨pb,t,none⟩=false:=by rw [hv1]; exact (HR0.out.row.set j _).frozen _
       have HV1:=Lib.hid hv1
       rw [← hv1]
       clear hv1
       refine tkR 16 rfl ?_
       refine wpAnyH_ready (rs:=[17]) (by kernel_rfl) (by simp) ?_
       refine (acR rfl (fun K hK => ?_) AllReadyH.nil)
       go_simp
       refine hK.out _ _ ?_ (fun hHeld => ?_)
       ·(try dsimp only)
        (try trivial)
       clear hK K
       (try simp only [Act.put,sqA,sqB,sqC])
       obtain ⟨v2,hv2⟩:∃ x,x=v1.setCell ⟨pb,t,none⟩ (.int .i64 (F j:Nat)):=⟨_,rfl⟩
       have HS2:Hid (SrAt v2 pb n lb N key (swK F j t)∧But pb w v2):=by
        rw [hv2,HV1.out]
        exact ⟨HR0.out.swap hXn hYn hXYn,(HB0.out.trans (But.set _ _)).trans (But.set _ _)⟩
       rw [← hv2]
       clear hv2
       refine wpAnyH_done (by kernel_rfl) ?_ _
       go_wp2
       go_roundw
       case rel => exact ⟨t,_,_,rfl,by first | rfl | (have:=HT.out; congr 1; omega),by have:=HT.out; omega,by have:=HT.out; omega,Lib.hid ⟨HIN.out.1,HIN.out.2.1,HIN.out.2.2,HS2.out.1,HS2.out.2⟩⟩
       case measure => have:=HT.out; simp [intOf]; omega
     ·have hc:=cmp_ge hk
      have HK:=Lib.hid hk
      clear hk
      go_wp2_with fail
      have c1:=HI.out.2.2.2.1.row.cell (i:=j) (by omega)
      have c2:=HI.out.2.2.2.1.row.cell (i:=t) (by omega)
      refine wp_region_held_drew (S:=fun w' => w'.cell? ⟨pb,j,none⟩=some (.int .i64 (F j:Nat))∧w'.cell? ⟨pb,t,none⟩=some (.int .i64 (F t:Nat))) (by kernel_rfl) ?_ (fun hHeld => ?_)
      ·exact ⟨c1,c2⟩
      obtain ⟨v0,hv0⟩:∃ w',w'=wq.drew:=⟨_,rfl⟩
      have hvb:Below wq.heap.size wq v0:=by rw [hv0]; exact (Below.refl _ _).drew
      have HR0:=Lib.hid (HI.out.2.2.2.1.call hvb)
      have HCC:=Lib.hid (hist_Order1 HR0.out.mks (F j) (F t) (HR0.out.mem _ (by omega)) (HR0.out.mem _ (by omega)))
      rw [← hv0] at hHeld ⊢
      clear hv0 c1 c2
      refine tkR 0 rfl ?_
      refine tkR 1 rfl ?_
      refine tkR 2 rfl ?_
      refine tkR 3 rfl ?_
      refine tkR 4 rfl ?_
      refine tkR 5 rfl ?_
      refine tkR 6 rfl ?_
      refine tkR 7 rfl ?_
      refine tkR 8 rfl ?_
      refine tkR 9 rfl ?_
      refine tkR 10 rfl ?_
      refine tkR 11 rfl ?_
      refine tkR 12 rfl ?_
      refine tkR 13 rfl ?_
      refine clR 14 rfl fun K hK => ?_
      go_simp
      refine Calls.mono HCC.out ?_
      rintro e w1 ⟨rfl,hb1⟩
      have hb01:Below wq.heap.size wq w1:=hvb.trans (hb1.mono hvb.size)
      have HSR:=Lib.hid (HI.out.2.2.2.1.call hb01)
      have HBU:Hid (But pb w w1):=HI.out.2.2.2.2.trans (But.of hb01 (Nat.le_of_lt HI.out.2.2.2.1.lt))
      have c1:=HSR.out.row.cell (i:=j) (by omega)
      have c2:=HSR.out.row.cell (i:=t) (by omega)
      clear hb1 hb01
      refine hK.out _ _ ?_ (fun hHeld => ?_)
      ·(try dsimp only)
       exact ⟨c1,c2⟩
      clear hK K
      refine tkR 15 rfl ?_
      refine tkR 16 rfl ?_
      refine wpAnyH_done (by kernel_rfl) ?_ _
      clear hHeld hvb c1 c2 HCC HR0
      have HEN:Hid (SdK key F a (k + 1)):=InK.end HI.out.1 hja hjk (.inr (by have e:j - 1=t:=(by have:=HT.out; omega); rw [e]; have:=HK.out; omega))
      clear HK hc
      go_wp2
      go_roundw
      case rel => exact ⟨k + 1,F,_,rfl,by go_num,by omega,by omega,Lib.hid ⟨HEN.out,HI.out.2.1,HI.out.2.2.1,HSR.out,HBU.out⟩⟩
      case measure => simp [intOf]; omega
    ·have d2:decide (a < j)=false:=decide_eq_false hgt
     obtain rfl:j=a:=by omega
     have HEN:Hid (SdK key F j (k + 1)):=InK.end HI.out.1 hja hjk (.inl rfl)
     go_wp2_with fail
     refine wp_region_held_drew (S:=fun w' => True) (by kernel_rfl) ?_ (fun hHeld => ?_)
     ·trivial
     obtain ⟨v0,hv0⟩:∃ w',w'=wq.drew:=⟨_,rfl⟩
     have hvb:Below wq.heap.size wq v0:=by rw [hv0]; exact (Below.refl _ _).drew
     rw [← hv0]
     clear hv0
     refine tkR 0 rfl ?_
     refine tkR 1 rfl ?_
     refine tkR 2 rfl ?_
     refine tkR 3 rfl ?_
     refine skR 4 rfl ?_
     refine skR 5 rfl ?_
     refine skR 6 rfl ?_
     refine skR 7 rfl ?_
     refine skR 8 rfl ?_
     refine skR 9 rfl ?_
     refine skR 10 rfl ?_
     refine skR 11 rfl ?_
     refine skR 12 rfl ?_
     refine skR 13 rfl ?_
     refine skR 14 rfl ?_
     refine skR 15 rfl ?_
     refine tkR 16 rfl ?_
     refine wpAnyH_done (by kernel_rfl) ?_ _
     have HSR:=Lib.hid (HI.out.2.2.2.1.call hvb)
     have HBU:Hid (But pb w v0):=HI.out.2.2.2.2.trans (But.of hvb (Nat.le_of_lt HI.out.2.2.2.1.lt))
     clear hHeld hvb
     go_wp2
     go_roundw
     case rel => exact ⟨k + 1,F,_,rfl,by go_num,by omega,by omega,Lib.hid ⟨HEN.out,HI.out.2.1,HI.out.2.2.1,HSR.out,HBU.out⟩⟩
     case measure => simp [intOf]; omega
  ·have d1:decide (k < b)=false:=decide_eq_false hlt
   have HF:Hid (∃ f',MgK key f f' a b∧SrAt wr pb n lb N key f'∧But pb w wr):=⟨f1,⟨HO.out.2.2.1,HO.out.1.mono (Nat.le_refl _) (by omega),HO.out.2.1⟩,HO.out.2.2.2.1,HO.out.2.2.2.2⟩
   go_wp2
   go_end0
   exact ⟨rfl,HF.out⟩
end
end
end Go.Proofs.YtfekhdgjgjodlaaGreat
