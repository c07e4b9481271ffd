/-
  Words and contracts that a statement's proof rests on (FdU). No statement is proved here.
-/
import Derived.Test.YthloabdfkakehaaFdS
set_option linter.unusedVariables false
set_option linter.unusedSimpArgs false
namespace Go.Proofs.Ythloabdfkakehaa
open Go.RowKit
def Made0 (w:World) (e:Ending) (w':World):Prop:=∃ v,e=.returned v∧w'.ownsRow w.heap.size 132 2 v 0 []∧Below w.heap.size w w'
set_option maxRecDepth 20000 in
set_option maxHeartbeats 3200000 in
theorem writes_Grow (n:Nat) (hn:n≤100000) (w:World):Calls Try.prog 118 #[.slice none 0 0,.int .i64 (n:Nat)] w (Made0 w):=by
 rcases Nat.eq_zero_or_pos n with h0 | h0
 ·subst h0
  go_enter Try.func118,Try.ntmps118
  go_wp2
  go_ret
  exact ⟨_,rfl,⟨rfl,.inl ⟨rfl,rfl⟩⟩,Below.refl _ _⟩
 ·obtain ⟨i0,hi⟩:∃ i0,Try.prog.info? 132=some i0:=by
   have h9:(Try.prog.info? 132).map (fun i => (i.zero,i.size,i.bytes))=some (some (.agg #[.int .i64 0,.int .u64 0]),2,16):=rfl
   cases h:Try.prog.info? 132 with
   | none => rw [h] at h9; cases h9
   | some i => exact ⟨i,rfl⟩
  obtain ⟨hz0,hs0,hb0⟩:i0.zero=some (.agg #[.int .i64 0,.int .u64 0])∧i0.size=2∧i0.bytes=16:=by
   have h9:(Try.prog.info? 132).map (fun i => (i.zero,i.size,i.bytes))=some (some (.agg #[.int .i64 0,.int .u64 0]),2,16):=rfl
   rw [hi] at h9
   simp only [Option.map_some] at h9
   injection h9 with h9
   injection h9 with h1 h2
   injection h2 with h2 h3
   exact ⟨h1,h2,h3⟩
  have hd:decide ((n:Int) < 0)=false:=by simp
  have hrz:∀ ty,(Builtin.append_ #[91,3] ty #[.slice none 0 0,.int .i64 (n:Nat)]).run Try.prog w =
    .ok (.slice (some ⟨w.heap.size,0,none⟩) n (grownCap w n 0 132)) (w.drew.alloc (.cells ((#[]:Array Value) ++ Builtin.zeroCells #[.int .i64 0,.int .u64 0] n ++ Builtin.zeroCells #[.int .i64 0,.int .u64 0] (grownCap w n 0 132 - n)) 132)):=fun ty => by
   have h:=Lib.run_append_grow_zeros w 91 3 ty 132 i0 (.agg #[.int .i64 0,.int .u64 0]) .i64 .i64 Try.underlying91 Try.underlying3 hi hz0 none 0 0 [] (by rw [hs0]; exact run_firstCells_none w.drew 2 0 0 0) n h0 (by omega) (by omega) (by omega)
    (by rw [hb0]; omega)
    (by rw [hb0]; exact growslice_fits (by omega) (by omega))
   rw [Nat.zero_add] at h
   exact h
  obtain ⟨G,hG⟩:∃ G,G=grownCap w n 0 132:=⟨_,rfl⟩
  have hGn:n≤G:=by rw [hG]; exact grownCap_ge w _ _ _
  have hGm:G≤maxLen:=by rw [hG]; exact grownCap_le_maxLen w n 0 132 (by unfold maxLen; omega)
  rw [← hG] at hrz
  have HG:=Lib.hid (And.intro hGn hGm)
  have hG63:G≤9223372036854775807:=by unfold maxLen at hGm; omega
  clear hG hi hz0 hs0 hb0 hGm
  go_enter Try.func118,Try.ntmps118
  go_wp2_with (at_builtin; refine Lib.wpList_append_run _ rfl _ _ _ _ rfl _ _ rfl rfl _ _ (hrz _) ?_)
  go_ret
  refine ⟨_,rfl,own_below (World.ownsRow_made w _ G (Nat.le_refl _) HG.out.2 ?_) (Below.drew (Below.refl _ _)),((Below.refl _ _).alloc (Nat.le_refl _) _).drew⟩
  rw [Array.size_append,size_zeroCells,size_zeroCells]
  have:=HG.out.1
  simp
  omega
def catL (q:Nat→List (Nat × Int)):Nat→List (Nat × Int)
 | 0 => []
 | k + 1 => catL q k ++ q k
theorem catL_le (q:Nat→List (Nat × Int)) {M:Nat} (h:∀ i,(q i).length≤M):∀ k,(catL q k).length≤k * M
 | 0 => Nat.zero_le _
 | k + 1 => by
  have:=catL_le q h k
  have:=h k
  rw [catL,List.length_append,Nat.add_mul,Nat.one_mul]
  omega
set_option maxRecDepth 20000 in
set_option maxHeartbeats 6400000 in
theorem writes_Concat {w:World} {N cap b:Nat} {u:Nat→Value} {q:Nat→List (Nat × Int)} (hN:1≤N∧N≤8) (hcap:N≤cap∧cap≤100) (hb:b < w.heap.size) (hc:∀ i,i < N→w.cell? ⟨b,i,none⟩=some (u i)∧Sl w w.heap.size 2 (u i) (q i).length (wrc (q i))) (hq:∀ i,(q i).length≤10000) :
  Calls Try.prog 111 #[.slice (some ⟨b,0,none⟩) N cap] w (WrDid (catL q N) w):=by
 have HC:=Lib.hid hc
 have HQ:=Lib.hid hq
 have HL:=Lib.hid (catL_le q hq)
 have HGR:=Lib.hid fun n (hn:n≤100000) W => writes_Grow n hn W
 obtain ⟨hN1,hN2⟩:=hN
 obtain ⟨hc1,hc2⟩:=hcap
 clear hc hq
 go_enter Try.func111,Try.ntmps111
 go_wp2
 go_loopw [3,11] (fun s i wr => ∃ k:Nat,k≤N∧i=.int .i64 k∧s=.int .i64 ((catL q k).length:Nat)∧w=wr) (fun _ i _ => N - (intOf i).toNat)
 case atStart => exact ⟨0,by omega,rfl,rfl,rfl⟩
 case round =>
  obtain ⟨k,hk,rfl,rfl,rfl⟩:=hrel
  have hlk:=HL.out k
  obtain ⟨T,hT⟩:∃ T,T=(catL q k).length:=⟨_,rfl⟩
  have hTb:T≤80000:=by have:k * 10000≤8 * 10000:=Nat.mul_le_mul_right _ (by omega); omega
  rw [← hT]
  by_cases hlt:k < N
  ·obtain ⟨e1,e2⟩:=HC.out k hlt
   obtain ⟨A,c,hu,h1,h2⟩:=e2.form
   rw [hu] at e1
   have g0:(0:Int)≤(k:Int):=Int.natCast_nonneg _
   have g1:(k:Int) < (N:Int):=by omega
   obtain ⟨l,hl⟩:∃ l,l=(q k).length:=⟨_,rfl⟩
   have hlb:l≤10000:=by rw [hl]; exact HQ.out k
   have HT:Hid ((catL q (k + 1)).length=T + l):=Lib.hid (by rw [catL,List.length_append,← hT,← hl])
   rw [← hl] at e1
   have hkb:k < 10:=by omega
   have d1:decide (((T + l:Nat):Int) < 0)=false:=by simp; omega
   obtain ⟨y1,y2⟩:=wrap_addF (k:=T) (l:=l) (by omega) (by omega)
   obtain ⟨S,hS⟩:∃ S,S=T + l:=⟨_,rfl⟩
   rw [← hS] at y1 y2 d1
   have HS:=Lib.hid hS
   unfold maxLen at h2
   clear hT hl hlk hu e2 hlb hS hTb
   go_wp2
   go_roundw
   case rel => exact ⟨k + 1,by clear y1 y2; omega,by clear y1 y2; go_num,by rw [HT.out,← HS.out],by first | rfl | trivial⟩
   case measure => simp [intOf]; clear y1 y2; omega
  ·have hkN:k=N:=by omega
   have HTN:=Lib.hid hT
   clear hT hlk
   go_wp2_with fail
   refine (HGR.out T (by omega) _).mono ?_
   rintro e w1 ⟨v,rfl,ho,hb1⟩
   have HO1:=Lib.hid ho
   have HB1:=Lib.hid hb1
   clear ho hb1 HGR
   go_wp2
   go_loopw [6,27] (fun v i wr => ∃ (j:Nat) (z:Value),z=v∧j≤N∧i=.int .i64 j∧Hid (wr.ownsRow w.heap.size 132 2 z (catL q j).length (wrc (catL q j)))∧Hid (Below w.heap.size w wr)) (fun _ i _ => N - (intOf i).toNat)
   case atStart => exact ⟨0,_,rfl,by omega,rfl,HO1.out,HB1.out⟩
   case round =>
    obtain ⟨j,z,rfl,hj,rfl,HO,HB⟩:=hrel
    by_cases hjt:j < N
    ·obtain ⟨e1',e2'⟩:=HC.out j hjt
     have e1:=(HB.out.cell (p:=⟨b,j,none⟩) hb).trans e1'
     have HSL:=Lib.hid (e2'.below HB.out)
     obtain ⟨A,c,hu,h1,h2⟩:=e2'.form
     rw [hu] at e1 HSL
     have g0:(0:Int)≤(j:Int):=Int.natCast_nonneg _
     have g1:(j:Int) < (N:Int):=by omega
     have hjl:=HL.out j
     have hjl2:=HQ.out j
     have hjm:j * 10000≤8 * 10000:=Nat.mul_le_mul_right _ (by omega)
     have hzw:=HB.out.size
     have hjb:j < 10:=by omega
     obtain ⟨M,hM⟩:∃ M,M=(catL q j).length:=⟨_,rfl⟩
     obtain ⟨l,hl⟩:∃ l,l=(q j).length:=⟨_,rfl⟩
     rw [← hM] at HO hjl
     rw [← hl] at HSL e1 hjl2
     have HE:Hid ((catL q (j + 1)).length=M + l∧wrc (catL q (j + 1))=wrc (catL q j) ++ wrc (q j)):=Lib.hid ⟨by rw [catL,List.length_append,← hM,← hl],by rw [catL,wrc_append]⟩
     unfold maxLen at h2
     clear hM hl hu e1' e2'
     go_wp2_with (first
      | (at_builtin; refine wpList_app _ rfl stWrites (.tmp 31) (.tmp 32) rfl w.heap.size z M _ rfl HO.out w.heap.size _ l (wrc (q j)) rfl HSL.out (wrc_one _) (by omega) hzw ?_; intro v2 w3 hown2 hgr2 hat2 hbel2)
      | fail)
     have HO3:=Lib.hid hown2
     have HB3:=Lib.hid (HB.out.trans hbel2)
     clear hown2 hgr2 hat2 hbel2
     go_wp2
     go_roundw
     case rel =>
      refine ⟨j + 1,_,rfl,by omega,by go_num,?_,HB3.out⟩
      rw [HE.out.1,HE.out.2]
      exact HO3.out
     case measure => simp [intOf]; omega
    ·have:j=N:=by omega
     subst this
     go_wp2
     go_ret
     exact ⟨_,rfl,HO.out,HB.out⟩
end Go.Proofs.Ythloabdfkakehaa
