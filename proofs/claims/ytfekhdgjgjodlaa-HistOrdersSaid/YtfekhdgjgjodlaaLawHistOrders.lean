/-
  What took effect is told in the order of its times, each once, and nothing else: for every row of entries. No condition.
-/
import Derived.Test.YtfekhdgjgjodlaaRows
import Derived.Test.YtfekhdgjgjodlaaHiM
import Derived.Test.YtfekhdgjgjodlaaHiT
import Derived.Test.YtfekhdgjgjodlaaSrH
import Derived.WalkKit
import Derived.ProofKit
import Derived.OpenShut
namespace Go.Proofs.Ytfekhdgjgjodlaa.histOrders
open Go.ChangeShapes Go.WideShapes Go.ChangeAt Go.RowKit
open Go.ChangeMaps (open_string)
set_option linter.unusedVariables false

theorem own:ownKnob Try.prog.godebug=none:=by kernel_rfl

set_option maxRecDepth 20000 in
set_option maxHeartbeats 6400000 in
theorem walk (W:World) (a0:Value) (b0:Ents18 W a0) :
    Calls Try.prog 3 #[a0] W (Says (.bool true) W):=by
  obtain ⟨n0,L,⟨A,cap,rfl,h1,h2,h3⟩,hok⟩:=b0
  have HOK:=Lib.hid hok
  have hcut:=EnRow.cut (show EnRow W W.heap.size n0 (.slice A n0 cap) L from ⟨A,cap,rfl,h1,h2,h3⟩) (Nat.min_le_left n0 80)
  obtain ⟨K,hK⟩:∃ K,K=min n0 80:=⟨_,rfl⟩
  rw [← hK] at hcut
  have hrow:EnRow W W.heap.size K (.slice A K cap) L:=by
    obtain ⟨A',c',e,_,_,h⟩:=hcut
    injection e with e1 _ e2
    subst e1 e2
    exact h
  have HFW:=Lib.hid fun W => law18_few (A:=A) (w:=W) h1 h2
  rw [← hK] at HFW
  have hK80:K≤80:=by omega
  have HRW:=Lib.hid hrow
  have HTO:=Lib.hid (law18_To (by omega) hrow (Nat.le_refl _))
  have HTD:=Lib.hid fun W => law18_told W
  clear hcut hrow h1 h2 h3 hok hK
  go_enter Try.func3,Try.ntmps3
  go_upto_region 3 with (first
    | (go_at_call 4; (with_reducible refine Calls.mono (HFW.out _) ?_); rintro e w1 ⟨rfl,rfl⟩)
    | (go_at_call 6; (with_reducible refine Calls.mono HTO.out ?_); rintro e w2 ⟨u,rfl,hu,hb2⟩; (have HU:=Lib.hid hu); (have HB2:=Lib.hid hb2); (have HOR:=Lib.hid (hist_Order (by omega) (EnRow.of_own hu) (Nat.le_refl _))); clear hu hb2)
    | (go_at_call 5; (with_reducible refine Calls.mono HOR.out ?_); rintro e w3 ⟨Ao,co,o,rfl,ho,hs,hb3,_⟩; (have HO:=Lib.hid ho); (have HS:=Lib.hid hs); (have HB3:Hid (Below W.heap.size W w3):=HB2.out.trans (hb3.mono HB2.out.size)); clear ho hs hb3)
    | fail)
  clear HFW HTO HOR HU HB2
  obtain ⟨key,hkey⟩:∃ key,key=fun i => (L i).mar:=⟨_,rfl⟩
  rw [← hkey] at HO
  have HKY:Hid (∀ i,(L i).mar=key i):=fun i => by rw [hkey]
  clear hkey
  have HEN:Hid (∀ w',Below w3.heap.size w3 w'→0 < K→∃ b off,A=some ⟨b,off,none⟩∧∀ i,i < K→w'.cell? ⟨b,off + i * 19 + 2,none⟩=some (.int .i64 (key i))):=fun w' hb hk => by
    obtain ⟨A',c',e,_,_,h⟩:=HRW.out.below (HB3.out.trans (hb.mono HB3.out.size))
    injection e with e1 _ e2
    subst e1 e2
    obtain ⟨b,off,rfl,_,hc⟩:=h hk
    exact ⟨b,off,rfl,fun i hi => by rw [← HKY.out]; exact (hc i hi).2.2.1⟩
  have hol:o.length≤80:=by have:=HO.out.len; omega
  have HPL:Hid (o.length=(pls key K).length):=HO.out.len_eq
  go_wp2
  go_loopw [4,5] (fun nv iv wr => ∃ (k p:Nat) (wx:World),wx=wr∧k≤K∧p≤k∧iv=.int .i64 k∧nv=.int .i64 p∧Hid (p=(pls key k).length)∧Hid (Below w3.heap.size w3 wr)) (fun _ iv _ => K - (intOf iv).toNat)
  case atStart => exact ⟨0,0,_,rfl,Nat.zero_le _,Nat.le_refl _,rfl,rfl,rfl,Below.refl _ _⟩
  case round =>
    obtain ⟨k,p,wr,rfl,hk,hpk,rfl,rfl,HP,HI⟩:=hrel
    by_cases hlt:k < K
    · have d1:decide (k < K)=true:=decide_eq_true hlt
      have g0:(0:Int)≤(k:Int):=Int.natCast_nonneg _
      have g1:(k:Int) < (K:Int):=by omega
      obtain ⟨b,off,rfl,hc⟩:=HEN.out wr HI.out (by omega)
      have c0:=hc k hlt
      have HSP:=Lib.hid (pls_step_pos (key:=key) (k:=k))
      have HSN:=Lib.hid (pls_step_neg (key:=key) (k:=k))
      obtain ⟨mk,hmk⟩:∃ m,m=key k:=⟨_,rfl⟩
      rw [← hmk] at c0 HSP HSN
      clear hc hmk
      by_cases hm:0 < mk
      · have d2:decide (mk > 0)=true:=decide_eq_true hm
        have HP2:Hid (p + 1=(pls key (k + 1)).length):=Lib.hid (by rw [HSP.out hm,HP.out])
        clear hm HP HSP HSN
        go_wp2
        go_roundw
        case rel => exact ⟨k + 1,p + 1,_,rfl,by omega,by omega,by go_num,by go_num,HP2.out,HI.out⟩
        case measure => simp [intOf]; omega
      · have d2:decide (mk > 0)=false:=decide_eq_false hm
        have HP2:Hid (p=(pls key (k + 1)).length):=Lib.hid (by rw [HSN.out hm,HP.out])
        clear hm HP HSP HSN
        go_wp2
        go_roundw
        case rel => exact ⟨k + 1,p,_,rfl,by omega,by omega,by go_num,rfl,HP2.out,HI.out⟩
        case measure => simp [intOf]; omega
    · have hkK:k=K:=by omega
      have d1:decide (k < K)=false:=decide_eq_false hlt
      have HPP:Hid (p=o.length):=Lib.hid (by rw [HPL.out,HP.out,hkK])
      clear HP HPL hlt hkK hpk
      go_wp2
      clear d1
      go_loopw [6] (fun iv wr => ∃ (j:Nat) (wx:World),wx=wr∧j≤o.length∧iv=.int .i64 j∧Hid (Below w3.heap.size w3 wr)) (fun iv _ => o.length - (intOf iv).toNat)
      case atStart => exact ⟨0,_,rfl,Nat.zero_le _,rfl,HI.out⟩
      case round =>
        clear HI
        obtain ⟨j,wr,rfl,hj,rfl,HI⟩:=hrel
        by_cases hlt:j < o.length
        · have d1:decide (j < o.length)=true:=decide_eq_true hlt
          have hmem:=HO.out.at_ hlt
          obtain ⟨b,off,rfl,hc⟩:=HEN.out wr HI.out (by omega)
          obtain ⟨pb,po,cp,hsv,_,_,_,hpc⟩:=(HS.out.below HI.out).at_ (by omega)
          injection hsv with hA _ hcp
          subst hA hcp
          have g0:(0:Int)≤(j:Int):=Int.natCast_nonneg _
          have g1:(j:Int) < (o.length:Int):=by omega
          have q0:wr.cell? ⟨pb,po + j,none⟩=some (.int .i64 (getN o j:Nat)):=(hpc j (by omega)).trans (natV_at hlt)
          have c0:=hc _ hmem.1
          rcases Nat.eq_zero_or_pos j with hz | hz
          · obtain ⟨i,hi⟩:∃ i,i=getN o j:=⟨_,rfl⟩
            rw [← hi] at hmem q0 c0
            obtain ⟨mi,hmi⟩:∃ m,m=key i:=⟨_,rfl⟩
            rw [← hmi] at hmem c0
            clear hi hmi hc hpc
            have t4:decide (0 < j)=false:=decide_eq_false (by omega)
            have i0:(0:Int)≤(i:Int):=Int.natCast_nonneg _
            have i1:(i:Int) < (K:Int):=by omega
            have t1:decide ((i:Int) < 0)=false:=decide_eq_false (by omega)
            have t2:decide (K≤i)=false:=decide_eq_false (by omega)
            have t3:decide (mi≤0)=false:=decide_eq_false (by omega)
            clear hmem
            have HSP:Hid (∀ w',Below wr.heap.size wr w'→w'.cell? ⟨pb,po + j,none⟩=some (.int .i64 (i:Nat))∧w'.cell? ⟨b,off + i * 19 + 2,none⟩=some (.int .i64 mi)):=fun w' hb => ⟨(hb.cell (p:=⟨pb,po + j,none⟩) (World.block_lt_of_cell? _ _ q0)).trans q0,(hb.cell (p:=⟨b,off + i * 19 + 2,none⟩) (World.block_lt_of_cell? _ _ c0)).trans c0⟩
            clear q0 c0
            clear hz
            go_wp2_with fail
            refine wp_region_held_drew (S:=fun w' => w'.cell? ⟨pb,po + j,none⟩=some (.int .i64 (i:Nat))∧w'.cell? ⟨b,off + i * 19 + 2,none⟩=some (.int .i64 mi)) (by kernel_rfl) ?_ (fun hHeld => ?_)
            · exact HSP.out _ (Below.refl _ _).drew
            obtain ⟨v0,hv0⟩:∃ w',w'=wr.drew:=⟨_,rfl⟩
            have hvb:Below wr.heap.size wr v0:=by rw [hv0]; exact (Below.refl _ _).drew
            rw [← hv0] at hHeld ⊢
            clear hv0
            have HV0:=Lib.hid hvb
            clear hvb
            refine tkR 0 rfl ?_
            refine tkR 1 rfl ?_
            refine tkR 2 rfl ?_
            refine tkR 3 rfl ?_
            refine tkR 4 rfl ?_
            refine tkR 5 rfl ?_
            refine tkR 6 rfl ?_
            refine tkR 7 rfl ?_
            refine tkR 8 rfl ?_
            refine tkR 9 rfl ?_
            refine tkR 10 rfl ?_
            refine tkR 11 rfl ?_
            refine tkR 12 rfl ?_
            refine tkR 13 rfl ?_
            refine tkR 14 rfl ?_
            refine tkR 15 rfl ?_
            refine tkR 16 rfl ?_
            refine tkR 17 rfl ?_
            refine tkR 18 rfl ?_
            refine tkR 19 rfl ?_
            refine tkR 20 rfl ?_
            refine tkR 21 rfl ?_
            refine tkR 22 rfl ?_
            refine tkR 23 rfl ?_
            refine tkR 24 rfl ?_
            refine tkR 25 rfl ?_
            refine tkR 26 rfl ?_
            refine tkR 27 rfl ?_
            refine tkR 28 rfl ?_
            refine skR 29 rfl ?_
            refine skR 30 rfl ?_
            refine skR 31 rfl ?_
            refine skR 32 rfl ?_
            refine skR 33 rfl ?_
            refine skR 34 rfl ?_
            refine skR 35 rfl ?_
            refine skR 36 rfl ?_
            refine skR 37 rfl ?_
            refine skR 38 rfl ?_
            refine skR 39 rfl ?_
            refine skR 40 rfl ?_
            refine skR 41 rfl ?_
            refine skR 42 rfl ?_
            refine skR 43 rfl ?_
            refine skR 44 rfl ?_
            refine skR 45 rfl ?_
            refine skR 46 rfl ?_
            refine skR 47 rfl ?_
            refine skR 48 rfl ?_
            refine skR 49 rfl ?_
            refine skR 50 rfl ?_
            refine skR 51 rfl ?_
            refine skR 52 rfl ?_
            refine skR 53 rfl ?_
            refine skR 54 rfl ?_
            refine skR 55 rfl ?_
            refine skR 56 rfl ?_
            refine skR 57 rfl ?_
            refine skR 58 rfl ?_
            refine skR 59 rfl ?_
            refine skR 60 rfl ?_
            refine skR 61 rfl ?_
            refine skR 62 rfl ?_
            refine skR 63 rfl ?_
            refine skR 64 rfl ?_
            refine skR 65 rfl ?_
            refine skR 66 rfl ?_
            refine skR 67 rfl ?_
            refine skR 68 rfl ?_
            refine skR 69 rfl ?_
            refine skR 70 rfl ?_
            refine skR 71 rfl ?_
            refine skR 72 rfl ?_
            refine skR 73 rfl ?_
            refine skR 74 rfl ?_
            refine skR 75 rfl ?_
            refine skR 76 rfl ?_
            refine skR 77 rfl ?_
            refine skR 78 rfl ?_
            refine tkR 79 rfl ?_
            refine tkR 80 rfl ?_
            refine wpAnyH_done (by kernel_rfl) ?_ _
            go_wp2
            go_roundw
            case rel => exact ⟨j + 1,_,rfl,by omega,by go_num,HI.out.trans (HV0.out.mono HI.out.size)⟩
            case measure => simp [intOf]; omega
          · obtain ⟨m,rfl⟩:∃ m,j=m + 1:=⟨j - 1,by omega⟩
            have hnx:=HO.out.next hlt
            have hmem2:=HO.out.at_ (show m < o.length by omega)
            have q1:wr.cell? ⟨pb,po + m,none⟩=some (.int .i64 (getN o m:Nat)):=(hpc m (by omega)).trans (natV_at (by omega))
            have c1:=hc _ hmem2.1
            obtain ⟨i,hi⟩:∃ i,i=getN o (m + 1):=⟨_,rfl⟩
            obtain ⟨h,hh⟩:∃ i,i=getN o m:=⟨_,rfl⟩
            rw [← hi] at hmem q0 c0 hnx
            rw [← hh] at hmem2 q1 c1 hnx
            obtain ⟨mi,hmi⟩:∃ m,m=key i:=⟨_,rfl⟩
            obtain ⟨mh,hmh⟩:∃ m,m=key h:=⟨_,rfl⟩
            rw [← hmi] at hmem c0 hnx
            rw [← hmh] at hmem2 c1 hnx
            clear hi hmi hc hpc hh hmh hz
            obtain ⟨j,hjm⟩:∃ j,j=m + 1:=⟨_,rfl⟩
            rw [← hjm] at q0 g0 g1 d1 hj hlt ⊢
            have HJM:=Lib.hid hjm
            have hsub:IntKind.i64.wrap ((j:Int) - 1)=(m:Int):=by rw [hjm,IntKind.wrap_i64]; omega
            have i0:(0:Int)≤(i:Int):=Int.natCast_nonneg _
            have i1:(i:Int) < (K:Int):=by omega
            have h0:(0:Int)≤(h:Int):=Int.natCast_nonneg _
            have h1:(h:Int) < (K:Int):=by omega
            have m0:(0:Int)≤(m:Int):=Int.natCast_nonneg _
            have m1:(m:Int) < (o.length:Int):=by omega
            have t1:decide ((i:Int) < 0)=false:=decide_eq_false (by omega)
            have t2:decide (K≤i)=false:=decide_eq_false (by omega)
            have t3:decide (mi≤0)=false:=decide_eq_false (by omega)
            have t4:decide (0 < j)=true:=decide_eq_true (by omega)
            have t5:decide (mi < mh)=false:=decide_eq_false (by omega)
            have HSP:Hid (∀ w',Below wr.heap.size wr w'→w'.cell? ⟨pb,po + j,none⟩=some (.int .i64 (i:Nat))∧w'.cell? ⟨b,off + i * 19 + 2,none⟩=some (.int .i64 mi)∧w'.cell? ⟨pb,po + m,none⟩=some (.int .i64 (h:Nat))∧w'.cell? ⟨b,off + h * 19 + 2,none⟩=some (.int .i64 mh)):=fun w' hb => ⟨(hb.cell (p:=⟨pb,po + j,none⟩) (World.block_lt_of_cell? _ _ q0)).trans q0,(hb.cell (p:=⟨b,off + i * 19 + 2,none⟩) (World.block_lt_of_cell? _ _ c0)).trans c0,(hb.cell (p:=⟨pb,po + m,none⟩) (World.block_lt_of_cell? _ _ q1)).trans q1,(hb.cell (p:=⟨b,off + h * 19 + 2,none⟩) (World.block_lt_of_cell? _ _ c1)).trans c1⟩
            clear q0 c0 q1 c1 hmem hmem2 hjm
            by_cases he:mi=mh
            · have t6:(mi == mh)=true:=by simpa using he
              have t7:decide (i≤h)=false:=decide_eq_false (by omega)
              clear he hnx
              go_wp2_with fail
              refine wp_region_held_drew (S:=fun w' => w'.cell? ⟨pb,po + j,none⟩=some (.int .i64 (i:Nat))∧w'.cell? ⟨b,off + i * 19 + 2,none⟩=some (.int .i64 mi)∧w'.cell? ⟨pb,po + m,none⟩=some (.int .i64 (h:Nat))∧w'.cell? ⟨b,off + h * 19 + 2,none⟩=some (.int .i64 mh)) (by kernel_rfl) ?_ (fun hHeld => ?_)
              · exact HSP.out _ (Below.refl _ _).drew
              obtain ⟨v0,hv0⟩:∃ w',w'=wr.drew:=⟨_,rfl⟩
              have hvb:Below wr.heap.size wr v0:=by rw [hv0]; exact (Below.refl _ _).drew
              rw [← hv0] at hHeld ⊢
              clear hv0
              have HV0:=Lib.hid hvb
              clear hvb
              refine tkR 0 rfl ?_
              refine tkR 1 rfl ?_
              refine tkR 2 rfl ?_
              refine tkR 3 rfl ?_
              refine tkR 4 rfl ?_
              refine tkR 5 rfl ?_
              refine tkR 6 rfl ?_
              refine tkR 7 rfl ?_
              refine tkR 8 rfl ?_
              refine tkR 9 rfl ?_
              refine tkR 10 rfl ?_
              refine tkR 11 rfl ?_
              refine tkR 12 rfl ?_
              refine tkR 13 rfl ?_
              refine tkR 14 rfl ?_
              refine tkR 15 rfl ?_
              refine tkR 16 rfl ?_
              refine tkR 17 rfl ?_
              refine tkR 18 rfl ?_
              refine tkR 19 rfl ?_
              refine tkR 20 rfl ?_
              refine tkR 21 rfl ?_
              refine tkR 22 rfl ?_
              refine tkR 23 rfl ?_
              refine tkR 24 rfl ?_
              refine tkR 25 rfl ?_
              refine tkR 26 rfl ?_
              refine tkR 27 rfl ?_
              refine tkR 28 rfl ?_
              refine tkR 29 rfl ?_
              refine tkR 30 rfl ?_
              refine tkR 31 rfl ?_
              refine tkR 32 rfl ?_
              refine tkR 33 rfl ?_
              refine tkR 34 rfl ?_
              refine tkR 35 rfl ?_
              refine tkR 36 rfl ?_
              refine tkR 37 rfl ?_
              refine tkR 38 rfl ?_
              refine tkR 39 rfl ?_
              refine tkR 40 rfl ?_
              refine tkR 41 rfl ?_
              refine tkR 42 rfl ?_
              refine tkR 43 rfl ?_
              refine tkR 44 rfl ?_
              refine tkR 45 rfl ?_
              refine tkR 46 rfl ?_
              refine tkR 47 rfl ?_
              refine tkR 48 rfl ?_
              refine tkR 49 rfl ?_
              refine tkR 50 rfl ?_
              refine tkR 51 rfl ?_
              refine tkR 52 rfl ?_
              refine tkR 53 rfl ?_
              refine tkR 54 rfl ?_
              refine tkR 55 rfl ?_
              refine tkR 56 rfl ?_
              refine tkR 57 rfl ?_
              refine tkR 58 rfl ?_
              refine tkR 59 rfl ?_
              refine tkR 60 rfl ?_
              refine tkR 61 rfl ?_
              refine tkR 62 rfl ?_
              refine tkR 63 rfl ?_
              refine tkR 64 rfl ?_
              refine tkR 65 rfl ?_
              refine tkR 66 rfl ?_
              refine tkR 67 rfl ?_
              refine tkR 68 rfl ?_
              refine tkR 69 rfl ?_
              refine tkR 70 rfl ?_
              refine tkR 71 rfl ?_
              refine tkR 72 rfl ?_
              refine tkR 73 rfl ?_
              refine tkR 74 rfl ?_
              refine tkR 75 rfl ?_
              refine tkR 76 rfl ?_
              refine tkR 77 rfl ?_
              refine tkR 78 rfl ?_
              refine tkR 79 rfl ?_
              refine tkR 80 rfl ?_
              refine wpAnyH_done (by kernel_rfl) ?_ _
              go_wp2
              go_roundw
              case rel => exact ⟨j + 1,_,rfl,by omega,by go_num,HI.out.trans (HV0.out.mono HI.out.size)⟩
              case measure => simp [intOf]; omega
            · have t6:(mi == mh)=false:=by simpa using he
              clear he hnx
              go_wp2_with fail
              refine wp_region_held_drew (S:=fun w' => w'.cell? ⟨pb,po + j,none⟩=some (.int .i64 (i:Nat))∧w'.cell? ⟨b,off + i * 19 + 2,none⟩=some (.int .i64 mi)∧w'.cell? ⟨pb,po + m,none⟩=some (.int .i64 (h:Nat))∧w'.cell? ⟨b,off + h * 19 + 2,none⟩=some (.int .i64 mh)) (by kernel_rfl) ?_ (fun hHeld => ?_)
              · exact HSP.out _ (Below.refl _ _).drew
              obtain ⟨v0,hv0⟩:∃ w',w'=wr.drew:=⟨_,rfl⟩
              have hvb:Below wr.heap.size wr v0:=by rw [hv0]; exact (Below.refl _ _).drew
              rw [← hv0] at hHeld ⊢
              clear hv0
              have HV0:=Lib.hid hvb
              clear hvb
              refine tkR 0 rfl ?_
              refine tkR 1 rfl ?_
              refine tkR 2 rfl ?_
              refine tkR 3 rfl ?_
              refine tkR 4 rfl ?_
              refine tkR 5 rfl ?_
              refine tkR 6 rfl ?_
              refine tkR 7 rfl ?_
              refine tkR 8 rfl ?_
              refine tkR 9 rfl ?_
              refine tkR 10 rfl ?_
              refine tkR 11 rfl ?_
              refine tkR 12 rfl ?_
              refine tkR 13 rfl ?_
              refine tkR 14 rfl ?_
              refine tkR 15 rfl ?_
              refine tkR 16 rfl ?_
              refine tkR 17 rfl ?_
              refine tkR 18 rfl ?_
              refine tkR 19 rfl ?_
              refine tkR 20 rfl ?_
              refine tkR 21 rfl ?_
              refine tkR 22 rfl ?_
              refine tkR 23 rfl ?_
              refine tkR 24 rfl ?_
              refine tkR 25 rfl ?_
              refine tkR 26 rfl ?_
              refine tkR 27 rfl ?_
              refine tkR 28 rfl ?_
              refine tkR 29 rfl ?_
              refine tkR 30 rfl ?_
              refine tkR 31 rfl ?_
              refine tkR 32 rfl ?_
              refine tkR 33 rfl ?_
              refine tkR 34 rfl ?_
              refine tkR 35 rfl ?_
              refine tkR 36 rfl ?_
              refine tkR 37 rfl ?_
              refine tkR 38 rfl ?_
              refine tkR 39 rfl ?_
              refine tkR 40 rfl ?_
              refine tkR 41 rfl ?_
              refine tkR 42 rfl ?_
              refine tkR 43 rfl ?_
              refine tkR 44 rfl ?_
              refine tkR 45 rfl ?_
              refine tkR 46 rfl ?_
              refine tkR 47 rfl ?_
              refine tkR 48 rfl ?_
              refine tkR 49 rfl ?_
              refine tkR 50 rfl ?_
              refine tkR 51 rfl ?_
              refine tkR 52 rfl ?_
              refine tkR 53 rfl ?_
              refine tkR 54 rfl ?_
              refine tkR 55 rfl ?_
              refine tkR 56 rfl ?_
              refine tkR 57 rfl ?_
              refine tkR 58 rfl ?_
              refine tkR 59 rfl ?_
              refine tkR 60 rfl ?_
              refine tkR 61 rfl ?_
              refine tkR 62 rfl ?_
              refine tkR 63 rfl ?_
              refine tkR 64 rfl ?_
              refine tkR 65 rfl ?_
              refine tkR 66 rfl ?_
              refine skR 67 rfl ?_
              refine skR 68 rfl ?_
              refine skR 69 rfl ?_
              refine skR 70 rfl ?_
              refine skR 71 rfl ?_
              refine skR 72 rfl ?_
              refine skR 73 rfl ?_
              refine skR 74 rfl ?_
              refine skR 75 rfl ?_
              refine skR 76 rfl ?_
              refine tkR 77 rfl ?_
              refine tkR 78 rfl ?_
              refine tkR 79 rfl ?_
              refine tkR 80 rfl ?_
              refine wpAnyH_done (by kernel_rfl) ?_ _
              go_wp2
              go_roundw
              case rel => exact ⟨j + 1,_,rfl,by omega,by go_num,HI.out.trans (HV0.out.mono HI.out.size)⟩
              case measure => simp [intOf]; omega
        · have hjo:j=o.length:=by omega
          have d1:decide (j < o.length)=false:=decide_eq_false hlt
          have t8:((o.length:Int) == (p:Int))=true:=by rw [HPP.out]; simp
          go_wp2_with (first
            | go_big_skip
            | (go_at_call 7; (with_reducible refine Calls.mono (HTD.out _) ?_); rintro e w9 ⟨rfl,hb9⟩; (have HB9:=Lib.hid hb9); clear hb9)
            | fail)
          go_ret
          exact ⟨by first | rfl | (simp; done),HB3.out.trans ((HI.out.trans (HB9.out.mono HI.out.size)).mono HB3.out.size)⟩

set_option maxRecDepth 100000 in
/-- What the walk gives,for every argument: the row's own words. -/
theorem contract (H:Type) (enc:TypeId × Value→H) (W:World) (base:Nat) (args:Array Value) (ds gs:List (DataW H)) (before:List MemPlace)
    (hval:∀ (j:Nat) t v,Try.f3.params[j]?=some t→args[j]?=some v→Value.okWide Try.prog W .any base t v)
    (hW:DataW.Whole enc Try.prog Try.f3.params.toList Rows.histOrdersSpec.vars false W args.toList ds gs before) :
    Calls Try.prog 3 args W fun e W' => ∃ v,e=.returned v∧Rows.histOrdersSpec.post enc Try.prog Try.f3 false true false false W args v W':=by
  have hW':=hW
  obtain ⟨p,q,hA0,hV,rfl,hfz,hnd⟩:=hW
  have hA:DataW.TrodAll enc Try.prog W 0 (fun _ => true) true Try.f3.params.toList args.toList ds p:=hA0
  rw [Try.params3] at hA hval
  obtain ⟨v0,vs0,d0,ds0,p0,q0,hargs,rfl,rfl,h0,r0⟩:=trodAll_cons hA
  obtain ⟨rfl,rfl,rfl⟩:=trodAll_nil r0
  obtain rfl:args=#[v0]:=by cases args; simp_all
  have b0:=open_ents18 Try.underlying22 (i:=3) (q:=28) (u:=31) (by kernel_rfl) (by kernel_rfl) Try.underlying3 Try.underlying28 Try.underlying31 (hval 0 22 v0 rfl rfl) h0
  refine (walk W v0 b0).mono fun e W' ⟨he,hb⟩ => ?_
  subst he
  exact close_true (by kernel_rfl) Try.underlying4 (by kernel_rfl) (by kernel_rfl) rfl rfl hW' hb

set_option maxRecDepth 100000 in
theorem lifted (os:Os) (started:os.Started) (H:Type) (enc:TypeId × Value→H) :
    ReturnsInHanded {} Try.checked os 3 .any (Rows.histOrdersSpec.pre6 enc Try.prog Try.f3 Rows.histOrdersRow.domain false) (Rows.histOrdersSpec.post enc Try.prog Try.f3 false true false false):=by
  refine returnsInHanded_of_change (C:=Try.checked) own started (by kernel_rfl) Try.func3
    (ChangeSpec.witness6 (enc:=enc) (C:=Try.checked) false ⟨#[],#[.slice none 0 0],[]⟩ 8 (by kernel_rfl) (by kernel_rfl) (by kernel_rfl) (by kernel_rfl)) ?_
  intro W base args ds gs before hval hW _ _
  exact contract H enc W base args ds gs before hval hW

theorem proved:Rows.HistOrdersSaid :=
  OpenClaim.holds_of_wide 3 Try.f3 rfl rfl rfl rfl rfl rfl rfl ⟨rfl,rfl,rfl,rfl,rfl⟩ rfl rfl rfl rfl rfl (by kernel_rfl) Try.func3 (by kernel_rfl)
    (of_decide_eq_true (by kernel_rfl)) (by unfold Func.isWrapper; first | (rw [if_pos (by decide +kernel)]; kernel_rfl) | (rw [if_neg (by decide +kernel)]; exact ⟨rfl,rfl⟩))
    (fun os started H enc _ => lifted os started H enc)
#print axioms proved
end Go.Proofs.Ytfekhdgjgjodlaa.histOrders
