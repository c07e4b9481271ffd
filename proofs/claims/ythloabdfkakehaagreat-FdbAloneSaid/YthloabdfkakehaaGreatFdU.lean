/-
  Words and contracts that a statement's proof rests on (FdU, BkS). No statement is proved here.
-/
import Derived.Test.YthloabdfkakehaaGreatFdS
import Derived.Test.YthloabdfkakehaaGreatBkR
set_option linter.unusedVariables false
set_option linter.unusedSimpArgs false
namespace Go.Proofs.YthloabdfkakehaaGreat
section
open Go.RowKit
def Made0 (w:World) (e:Ending) (w':World):Prop:=∃ v,e=.returned v∧w'.ownsRow w.heap.size 158 2 v 0 []∧Below w.heap.size w w'
set_option maxRecDepth 20000 in
set_option maxHeartbeats 3200000 in
theorem writes_Grow (n:Nat) (hn:n≤100000) (w:World):Calls Tryz.prog 149 #[.slice none 0 0,.int .i64 (n:Nat)] w (Made0 w):=by
 rcases Nat.eq_zero_or_pos n with h0 | h0
 ·subst h0
  go_enter Tryz.func149,Tryz.ntmps149
  go_wp2
  go_ret
  exact ⟨_,rfl,⟨rfl,.inl ⟨rfl,rfl⟩⟩,Below.refl _ _⟩
 ·obtain ⟨i0,hi⟩:∃ i0,Tryz.prog.info? 158=some i0:=by
   have h9:(Tryz.prog.info? 158).map (fun i => (i.zero,i.size,i.bytes))=some (some (.agg #[.int .i64 0,.int .u64 0]),2,16):=rfl
   cases h:Tryz.prog.info? 158 with
   | none => rw [h] at h9; cases h9
   | some i => exact ⟨i,rfl⟩
  obtain ⟨hz0,hs0,hb0⟩:i0.zero=some (.agg #[.int .i64 0,.int .u64 0])∧i0.size=2∧i0.bytes=16:=by
   have h9:(Tryz.prog.info? 158).map (fun i => (i.zero,i.size,i.bytes))=some (some (.agg #[.int .i64 0,.int .u64 0]),2,16):=rfl
   rw [hi] at h9
   simp only [Option.map_some] at h9
   injection h9 with h9
   injection h9 with h1 h2
   injection h2 with h2 h3
   exact ⟨h1,h2,h3⟩
  have hd:decide ((n:Int) < 0)=false:=by simp
  have hrz:∀ ty,(Builtin.append_ #[108,3] ty #[.slice none 0 0,.int .i64 (n:Nat)]).run Tryz.prog w =
    .ok (.slice (some ⟨w.heap.size,0,none⟩) n (grownCap w n 0 158)) (w.drew.alloc (.cells ((#[]:Array Value) ++ Builtin.zeroCells #[.int .i64 0,.int .u64 0] n ++ Builtin.zeroCells #[.int .i64 0,.int .u64 0] (grownCap w n 0 158 - n)) 158)):=fun ty => by
   have h:=Lib.run_append_grow_zeros w 108 3 ty 158 i0 (.agg #[.int .i64 0,.int .u64 0]) .i64 .i64 Tryz.underlying108 Tryz.underlying3 hi hz0 none 0 0 [] (by rw [hs0]; exact run_firstCells_none w.drew 2 0 0 0) n h0 (by omega) (by omega) (by omega)
    (by rw [hb0]; omega)
    (by rw [hb0]; exact growslice_fits (by omega) (by omega))
   rw [Nat.zero_add] at h
   exact h
  obtain ⟨G,hG⟩:∃ G,G=grownCap w n 0 158:=⟨_,rfl⟩
  have hGn:n≤G:=by rw [hG]; exact grownCap_ge w _ _ _
  have hGm:G≤maxLen:=by rw [hG]; exact grownCap_le_maxLen w n 0 158 (by unfold maxLen; omega)
  rw [← hG] at hrz
  have HG:=Lib.hid (And.intro hGn hGm)
  have hG63:G≤9223372036854775807:=by unfold maxLen at hGm; omega
  clear hG hi hz0 hs0 hb0 hGm
  go_enter Tryz.func149,Tryz.ntmps149
  go_wp2_with (at_builtin; refine Lib.wpList_append_run _ rfl _ _ _ _ rfl _ _ rfl rfl _ _ (hrz _) ?_)
  go_ret
  refine ⟨_,rfl,own_below (World.ownsRow_made w _ G (Nat.le_refl _) HG.out.2 ?_) (Below.drew (Below.refl _ _)),((Below.refl _ _).alloc (Nat.le_refl _) _).drew⟩
  rw [Array.size_append,size_zeroCells,size_zeroCells]
  have:=HG.out.1
  simp
  omega
def catL (q:Nat→List (Nat × Int)):Nat→List (Nat × Int)
 | 0 => []
 | k + 1 => catL q k ++ q k
theorem catL_le (q:Nat→List (Nat × Int)) {M:Nat} (h:∀ i,(q i).length≤M):∀ k,(catL q k).length≤k * M
 | 0 => Nat.zero_le _
 | k + 1 => by
  have:=catL_le q h k
  have:=h k
  rw [catL,List.length_append,Nat.add_mul,Nat.one_mul]
  omega
set_option maxRecDepth 20000 in
set_option maxHeartbeats 6400000 in
theorem writes_Concat {w:World} {N cap b:Nat} {u:Nat→Value} {q:Nat→List (Nat × Int)} (hN:1≤N∧N≤8) (hcap:N≤cap∧cap≤100) (hb:b < w.heap.size) (hc:∀ i,i < N→w.cell? ⟨b,i,none⟩=some (u i)∧Sl w w.heap.size 2 (u i) (q i).length (wrc (q i))) (hq:∀ i,(q i).length≤10000) :
  Calls Tryz.prog 134 #[.slice (some ⟨b,0,none⟩) N cap] w (WrDid (catL q N) w):=by
 have HC:=Lib.hid hc
 have HQ:=Lib.hid hq
 have HL:=Lib.hid (catL_le q hq)
 have HGR:=Lib.hid fun n (hn:n≤100000) W => writes_Grow n hn W
 obtain ⟨hN1,hN2⟩:=hN
 obtain ⟨hc1,hc2⟩:=hcap
 clear hc hq
 go_enter Tryz.func134,Tryz.ntmps134
 go_wp2
 go_loopw [3,11] (fun s i wr => ∃ k:Nat,k≤N∧i=.int .i64 k∧s=.int .i64 ((catL q k).length:Nat)∧w=wr) (fun _ i _ => N - (intOf i).toNat)
 case atStart => exact ⟨0,by omega,rfl,rfl,rfl⟩
 case round =>
  obtain ⟨k,hk,rfl,rfl,rfl⟩:=hrel
  have hlk:=HL.out k
  obtain ⟨T,hT⟩:∃ T,T=(catL q k).length:=⟨_,rfl⟩
  have hTb:T≤80000:=by have:k * 10000≤8 * 10000:=Nat.mul_le_mul_right _ (by omega); omega
  rw [← hT]
  by_cases hlt:k < N
  ·obtain ⟨e1,e2⟩:=HC.out k hlt
   obtain ⟨A,c,hu,h1,h2⟩:=e2.form
   rw [hu] at e1
   have g0:(0:Int)≤(k:Int):=Int.natCast_nonneg _
   have g1:(k:Int) < (N:Int):=by omega
   obtain ⟨l,hl⟩:∃ l,l=(q k).length:=⟨_,rfl⟩
   have hlb:l≤10000:=by rw [hl]; exact HQ.out k
   have HT:Hid ((catL q (k + 1)).length=T + l):=Lib.hid (by rw [catL,List.length_append,← hT,← hl])
   rw [← hl] at e1
   have hkb:k < 10:=by omega
   have d1:decide (((T + l:Nat):Int) < 0)=false:=by simp; omega
   obtain ⟨y1,y2⟩:=wrap_addF (k:=T) (l:=l) (by omega) (by omega)
   obtain ⟨S,hS⟩:∃ S,S=T + l:=⟨_,rfl⟩
   rw [← hS] at y1 y2 d1
   have HS:=Lib.hid hS
   unfold maxLen at h2
   clear hT hl hlk hu e2 hlb hS hTb
   go_wp2
   go_roundw
   case rel => exact ⟨k + 1,by clear y1 y2; omega,by clear y1 y2; go_num,by rw [HT.out,← HS.out],by first | rfl | trivial⟩
   case measure => simp [intOf]; clear y1 y2; omega
  ·have hkN:k=N:=by omega
   have HTN:=Lib.hid hT
   clear hT hlk
   go_wp2_with fail
   refine (HGR.out T (by omega) _).mono ?_
   rintro e w1 ⟨v,rfl,ho,hb1⟩
   have HO1:=Lib.hid ho
   have HB1:=Lib.hid hb1
   clear ho hb1 HGR
   go_wp2
   go_loopw [6,27] (fun v i wr => ∃ (j:Nat) (z:Value),z=v∧j≤N∧i=.int .i64 j∧Hid (wr.ownsRow w.heap.size 158 2 z (catL q j).length (wrc (catL q j)))∧Hid (Below w.heap.size w wr)) (fun _ i _ => N - (intOf i).toNat)
   case atStart => exact ⟨0,_,rfl,by omega,rfl,HO1.out,HB1.out⟩
   case round =>
    obtain ⟨j,z,rfl,hj,rfl,HO,HB⟩:=hrel
    by_cases hjt:j < N
    ·obtain ⟨e1',e2'⟩:=HC.out j hjt
     have e1:=(HB.out.cell (p:=⟨b,j,none⟩) hb).trans e1'
     have HSL:=Lib.hid (e2'.below HB.out)
     obtain ⟨A,c,hu,h1,h2⟩:=e2'.form
     rw [hu] at e1 HSL
     have g0:(0:Int)≤(j:Int):=Int.natCast_nonneg _
     have g1:(j:Int) < (N:Int):=by omega
     have hjl:=HL.out j
     have hjl2:=HQ.out j
     have hjm:j * 10000≤8 * 10000:=Nat.mul_le_mul_right _ (by omega)
     have hzw:=HB.out.size
     have hjb:j < 10:=by omega
     obtain ⟨M,hM⟩:∃ M,M=(catL q j).length:=⟨_,rfl⟩
     obtain ⟨l,hl⟩:∃ l,l=(q j).length:=⟨_,rfl⟩
     rw [← hM] at HO hjl
     rw [← hl] at HSL e1 hjl2
     have HE:Hid ((catL q (j + 1)).length=M + l∧wrc (catL q (j + 1))=wrc (catL q j) ++ wrc (q j)):=Lib.hid ⟨by rw [catL,List.length_append,← hM,← hl],by rw [catL,wrc_append]⟩
     unfold maxLen at h2
     clear hM hl hu e1' e2'
     go_wp2_with (first
      | (at_builtin; refine wpList_app _ rfl stWrites (.tmp 31) (.tmp 32) rfl w.heap.size z M _ rfl HO.out w.heap.size _ l (wrc (q j)) rfl HSL.out (wrc_one _) (by omega) hzw ?_; intro v2 w3 hown2 hgr2 hat2 hbel2)
      | fail)
     have HO3:=Lib.hid hown2
     have HB3:=Lib.hid (HB.out.trans hbel2)
     clear hown2 hgr2 hat2 hbel2
     go_wp2
     go_roundw
     case rel =>
      refine ⟨j + 1,_,rfl,by omega,by go_num,?_,HB3.out⟩
      rw [HE.out.1,HE.out.2]
      exact HO3.out
     case measure => simp [intOf]; omega
    ·have:j=N:=by omega
     subst this
     go_wp2
     go_ret
     exact ⟨_,rfl,HO.out,HB.out⟩
end
section
open Go.RowKit
set_option maxRecDepth 20000 in
set_option maxHeartbeats 12800000 in
theorem ref11_Want {w:World} {D:Nat→Prop} {p q S B n:Nat} {g:Nat→Nat→Pl} (h:BkAt w D p q S B n g) (hD:∀ b,D b→b < w.heap.size) (hq:D q) (hS:1≤S∧S≤8) (hB:1≤B∧B≤16) (hn:n≤8) (hst:stG g)
  (kd kv:Int) (m:Nat) (hm:m < 18446744073709551616) (port vid:Int) (now old:Nat) (hnow:now < 4294967296) (K:Nat) (hK:K < 7) (hk1:wrap64 ((IntKind.u64.wrap kd).tmod 7)=(K:Int)) (hk2:IntKind.i64.wrap ((IntKind.u64.wrap kd).tmod 7)=(K:Int)) :
  Calls Tryz.prog 41 #[.pointer (some ⟨p,0,none⟩),.agg #[.int .i64 kd,.int .i64 kv,.int .u64 (m:Int),.int .i64 port,.int .i64 vid,.int .u32 (now:Int),.int .u32 (old:Int)]] w fun e w' => e=.returned (.int .i64 (doG K kv m port vid now old S B n g).2)∧BkAt w' D p q S B n (doG K kv m port vid now old S B n g).1∧But q w w':=by
 have hqw:q < w.heap.size:=h.2.1
 have HD:=Lib.hid fun w' (hb:Below w.heap.size w w') b (hd:D b) => Nat.lt_of_lt_of_le (hD b hd) hb.size
 have HH:=Lib.hid fun w' (hb:Below w.heap.size w w') => h.call hb
 have hst':∀ i,i < S * B→∀ j,j < n→(g i j).e.stamp < 4294967296:=fun i _ j _ => hst i j
 have hn':n≤1000000:=by omega
 rcases (show K=0 ∨ K=1 ∨ K=2 ∨ K=3 ∨ K=4 ∨ K=5 ∨ K=6 by omega) with rfl | rfl | rfl | rfl | rfl | rfl | rfl
 ·have HC:Hid (∀ w',Below w.heap.size w w'→Calls Tryz.prog 26 #[.pointer (some ⟨p,0,none⟩),.agg #[.int .i64 kv,.int .u64 (m:Int)]] w' fun e w'' => e=.returned (.int .i64 (doG 0 kv m port vid now old S B n g).2)∧BkAt w'' D p q S B n (doG 0 kv m port vid now old S B n g).1∧But q w' w''):=fun w' hb => by
   refine (ref11_Lookup (HH.out w' hb) hS hB hn' kv m hm).mono ?_
   rintro e w'' ⟨rfl,hb2⟩
   exact ⟨rfl,(HH.out w' hb).call hb2,But.of hb2 (Nat.le_trans (Nat.le_of_lt hqw) hb.size)⟩
  generalize doG 0 kv m port vid now old S B n g=r at *
  clear hst hst' hn hn' hm hnow hK HD HH h hS hB hD
  rw [show ((0:Nat):Int)=0 from rfl] at hk1 hk2
  go_enter Tryz.func41,Tryz.ntmps41
  go_wp2_with fail
  refine (HC.out _ ((Below.refl _ _).alloc (Nat.le_refl _) _)).mono ?_
  rintro e w3 ⟨rfl,hbk,hbt⟩
  have HBK3:=Lib.hid hbk
  have HBT3:Hid (But q w w3):=(But.of ((Below.refl _ _).alloc (Nat.le_refl _) _) (Nat.le_of_lt hqw)).trans hbt
  clear hbk hbt
  go_wp2
  go_ret
  exact ⟨by first | rfl | (simp; done),HBK3.out,HBT3.out⟩
 ·have HC:Hid (∀ w',Below w.heap.size w w'→Calls Tryz.prog 83 #[.pointer (some ⟨p,0,none⟩),.agg #[.int .i64 kv,.int .u64 (m:Int)],.int .i64 port,.int .u32 (now:Int)] w' fun e w'' => e=.returned (.int .i64 (doG 1 kv m port vid now old S B n g).2)∧BkAt w'' D p q S B n (doG 1 kv m port vid now old S B n g).1∧But q w' w''):=fun w' hb => ref11_Learn (HH.out w' hb) (HD.out w' hb) hq hS hB hn' hst' kv m hm port now hnow
  generalize doG 1 kv m port vid now old S B n g=r at *
  clear hst hst' hn hn' hm hnow hK HD HH h hS hB hD
  rw [show ((1:Nat):Int)=1 from rfl] at hk1 hk2
  go_enter Tryz.func41,Tryz.ntmps41
  go_wp2_with fail
  refine (HC.out _ ((Below.refl _ _).alloc (Nat.le_refl _) _)).mono ?_
  rintro e w3 ⟨rfl,hbk,hbt⟩
  have HBK3:=Lib.hid hbk
  have HBT3:Hid (But q w w3):=(But.of ((Below.refl _ _).alloc (Nat.le_refl _) _) (Nat.le_of_lt hqw)).trans hbt
  clear hbk hbt
  go_wp2
  go_ret
  exact ⟨by first | rfl | (simp; done),HBK3.out,HBT3.out⟩
 ·have HC:Hid (∀ w',Below w.heap.size w w'→Calls Tryz.prog 83 #[.pointer (some ⟨p,0,none⟩),.agg #[.int .i64 kv,.int .u64 (m:Int)],.int .i64 port,.int .u32 (now:Int)] w' fun e w'' => e=.returned (.int .i64 (doG 2 kv m port vid now old S B n g).2)∧BkAt w'' D p q S B n (doG 2 kv m port vid now old S B n g).1∧But q w' w''):=fun w' hb => ref11_Learn (HH.out w' hb) (HD.out w' hb) hq hS hB hn' hst' kv m hm port now hnow
  generalize doG 2 kv m port vid now old S B n g=r at *
  clear hst hst' hn hn' hm hnow hK HD HH h hS hB hD
  rw [show ((2:Nat):Int)=2 from rfl] at hk1 hk2
  go_enter Tryz.func41,Tryz.ntmps41
  go_wp2_with fail
  refine (HC.out _ ((Below.refl _ _).alloc (Nat.le_refl _) _)).mono ?_
  rintro e w3 ⟨rfl,hbk,hbt⟩
  have HBK3:=Lib.hid hbk
  have HBT3:Hid (But q w w3):=(But.of ((Below.refl _ _).alloc (Nat.le_refl _) _) (Nat.le_of_lt hqw)).trans hbt
  clear hbk hbt
  go_wp2
  go_ret
  exact ⟨by first | rfl | (simp; done),HBK3.out,HBT3.out⟩
 ·have HC:Hid (∀ w',Below w.heap.size w w'→Calls Tryz.prog 79 #[.pointer (some ⟨p,0,none⟩),.agg #[.int .i64 kv,.int .u64 (m:Int)],.int .i64 port,.int .u32 (now:Int)] w' fun e w'' => e=.returned (.int .i64 (doG 3 kv m port vid now old S B n g).2)∧BkAt w'' D p q S B n (doG 3 kv m port vid now old S B n g).1∧But q w' w''):=fun w' hb => ref11_Order (HH.out w' hb) (HD.out w' hb) hq hS hB hn' hst' kv m hm port now hnow
  generalize doG 3 kv m port vid now old S B n g=r at *
  clear hst hst' hn hn' hm hnow hK HD HH h hS hB hD
  rw [show ((3:Nat):Int)=3 from rfl] at hk1 hk2
  go_enter Tryz.func41,Tryz.ntmps41
  go_wp2_with fail
  refine (HC.out _ ((Below.refl _ _).alloc (Nat.le_refl _) _)).mono ?_
  rintro e w3 ⟨rfl,hbk,hbt⟩
  have HBK3:=Lib.hid hbk
  have HBT3:Hid (But q w w3):=(But.of ((Below.refl _ _).alloc (Nat.le_refl _) _) (Nat.le_of_lt hqw)).trans hbt
  clear hbk hbt
  go_wp2
  go_ret
  exact ⟨by first | rfl | (simp; done),HBK3.out,HBT3.out⟩
 ·have hans:(doG 4 kv m port vid now old S B n g).2=if (dropF (fun i => ownP (g (homeN kv m S B) i)) kv m n).2=true then 1 else 0:=rfl
  have HC:Hid (∀ w',Below w.heap.size w w'→Calls Tryz.prog 80 #[.pointer (some ⟨p,0,none⟩),.agg #[.int .i64 kv,.int .u64 (m:Int)]] w' fun e w'' => e=.returned (.bool (dropF (fun i => ownP (g (homeN kv m S B) i)) kv m n).2)∧BkAt w'' D p q S B n (doG 4 kv m port vid now old S B n g).1∧But q w' w''):=fun w' hb => ref11_Drop (HH.out w' hb) (HD.out w' hb) hq hS hB hn' kv m hm
  rw [hans]
  generalize (doG 4 kv m port vid now old S B n g).1=r1 at *
  generalize (dropF (fun i => ownP (g (homeN kv m S B) i)) kv m n).2=z at *
  clear hst hst' hn hn' hm hnow hK HD HH h hans hS hB hD
  cases z
  ·rw [show (if false=true then (1:Int) else 0)=0 from rfl]
   rw [show ((4:Nat):Int)=4 from rfl] at hk1 hk2
   go_enter Tryz.func41,Tryz.ntmps41
   go_wp2_with fail
   refine (HC.out _ ((Below.refl _ _).alloc (Nat.le_refl _) _)).mono ?_
   rintro e w3 ⟨rfl,hbk,hbt⟩
   have HBK3:=Lib.hid hbk
   have HBT3:Hid (But q w w3):=(But.of ((Below.refl _ _).alloc (Nat.le_refl _) _) (Nat.le_of_lt hqw)).trans hbt
   clear hbk hbt
   go_wp2
   go_ret
   exact ⟨by first | rfl | (simp; done),HBK3.out,HBT3.out⟩
  ·rw [show (if true=true then (1:Int) else 0)=1 from rfl]
   rw [show ((4:Nat):Int)=4 from rfl] at hk1 hk2
   go_enter Tryz.func41,Tryz.ntmps41
   go_wp2_with fail
   refine (HC.out _ ((Below.refl _ _).alloc (Nat.le_refl _) _)).mono ?_
   rintro e w3 ⟨rfl,hbk,hbt⟩
   have HBK3:=Lib.hid hbk
   have HBT3:Hid (But q w w3):=(But.of ((Below.refl _ _).alloc (Nat.le_refl _) _) (Nat.le_of_lt hqw)).trans hbt
   clear hbk hbt
   go_wp2
   go_ret
   exact ⟨by first | rfl | (simp; done),HBK3.out,HBT3.out⟩
 ·have HC:Hid (∀ w',Below w.heap.size w w'→Calls Tryz.prog 81 #[.pointer (some ⟨p,0,none⟩),.int .i64 port,.int .i64 vid,.int .u32 (now:Int),.int .u32 (old:Int)] w' fun e w'' => e=.returned (.int .i64 (doG 5 kv m port vid now old S B n g).2)∧BkAt w'' D p q S B n (doG 5 kv m port vid now old S B n g).1∧But q w' w''):=fun w' hb => by
   rcases at_cases S B port vid with ⟨ha,ha2⟩ | ⟨H,hH,ha⟩
   ·have e:doG 5 kv m port vid now old S B n g=(g,0):=by
     unfold doG
     rw [if_neg (by omega),if_neg (by omega),if_neg (by omega),if_pos rfl,if_pos ha2]
    rw [e]
    refine (ref11_AgeNo (HH.out w' hb) hS hB port vid now old ha2).mono ?_
    rintro e w'' ⟨rfl,rfl⟩
    exact ⟨rfl,HH.out w' hb,But.of (Below.refl _ _) (Nat.le_trans (Nat.le_of_lt hqw) hb.size)⟩
   ·have e:doG 5 kv m port vid now old S B n g=(updR g H (ageR g H now old),((ageC g H now old n:Nat):Int)):=by
     unfold doG
     rw [if_neg (by omega),if_neg (by omega),if_neg (by omega),if_pos rfl,if_neg (by omega),ha,Int.toNat_natCast]
    rw [e]
    exact ref11_Age (HH.out w' hb) (HD.out w' hb) hq hS hB hn' hst' port vid now old hnow H hH ha
  generalize doG 5 kv m port vid now old S B n g=r at *
  clear hst hst' hn hn' hm hnow hK HD HH h hS hB hD
  rw [show ((5:Nat):Int)=5 from rfl] at hk1 hk2
  go_enter Tryz.func41,Tryz.ntmps41
  go_wp2_with fail
  refine (HC.out _ ((Below.refl _ _).alloc (Nat.le_refl _) _)).mono ?_
  rintro e w3 ⟨rfl,hbk,hbt⟩
  have HBK3:=Lib.hid hbk
  have HBT3:Hid (But q w w3):=(But.of ((Below.refl _ _).alloc (Nat.le_refl _) _) (Nat.le_of_lt hqw)).trans hbt
  clear hbk hbt
  go_wp2
  go_ret
  exact ⟨by first | rfl | (simp; done),HBK3.out,HBT3.out⟩
 ·have HC:Hid (∀ w',Below w.heap.size w w'→Calls Tryz.prog 82 #[.pointer (some ⟨p,0,none⟩),.agg #[.int .i64 port,.int .i64 vid]] w' fun e w'' => e=.returned (.int .i64 (doG 6 kv m port vid now old S B n g).2)∧BkAt w'' D p q S B n (doG 6 kv m port vid now old S B n g).1∧But q w' w''):=fun w' hb => ref11_Flush (HH.out w' hb) (HD.out w' hb) hq hS hB hn port vid
  generalize doG 6 kv m port vid now old S B n g=r at *
  clear hst hst' hn hn' hm hnow hK HD HH h hS hB hD
  rw [show ((6:Nat):Int)=6 from rfl] at hk1 hk2
  go_enter Tryz.func41,Tryz.ntmps41
  go_wp2_with fail
  refine (HC.out _ ((Below.refl _ _).alloc (Nat.le_refl _) _)).mono ?_
  rintro e w3 ⟨rfl,hbk,hbt⟩
  have HBK3:=Lib.hid hbk
  have HBT3:Hid (But q w w3):=(But.of ((Below.refl _ _).alloc (Nat.le_refl _) _) (Nat.le_of_lt hqw)).trans hbt
  clear hbk hbt
  go_wp2
  go_ret
  exact ⟨by first | rfl | (simp; done),HBK3.out,HBT3.out⟩
end
end Go.Proofs.YthloabdfkakehaaGreat
