/-
  Words and contracts that a statement's proof rests on (FgQ, FgR). No statement is proved here.
-/
import Derived.WalkMore
import Derived.Test.YthloabdfkakehaaGreatRgA
import Derived.Test.YthloabdfkakehaaGreatKeyR
import Derived.Test.YthloabdfkakehaaGreatFdV
import Derived.Test.YthloabdfkakehaaGreatFdX
import Derived.Test.YthloabdfkakehaaGreatFgI
import Derived.Test.YthloabdfkakehaaGreatFeH
import Derived.Test.YthloabdfkakehaaGreatBkT
set_option linter.unusedVariables false
set_option linter.unusedSimpArgs false
namespace Go.Proofs.YthloabdfkakehaaGreat
section
open Go.RowKit
theorem peek_in {F:FcS} {m:MemS} (hf:FFit F m.C m.L) {s n k:Nat} (hs:s < F.S) (hn:n < F.B) (hk:k < 2 * F.n):peekS m ((F.cell (s * F.B + n) + 1 + k:Nat):Int)=m.c (F.cell (s * F.B + n) + 1 + k)∧F.cell (s * F.B + n) + 1 + k < 1048576:=by
 have h1:=row_lt hs hn
 have h2:(s * F.B + n + 1) * F.W≤F.S * F.B * F.W:=Nat.mul_le_mul_right _ h1
 rw [Nat.add_mul,Nat.one_mul] at h2
 have h3:=hf.c
 have h4:=hf.C
 have h5:F.W=1 + 2 * F.n:=rfl
 have h6:F.cell (s * F.B + n)=F.ba + (s * F.B + n) * F.W:=rfl
 refine ⟨?_,by omega⟩
 unfold peekS
 rw [if_pos (by unfold hasC; simp; omega),Int.toNat_natCast]
theorem rowIs_sl {w:World} {g N:Nat} {T:TypeId} {f:Nat→Value} {l:List Int} (h:w.rowIs g T N f) (hl:l.length=N) (hN:N≤maxLen) (hf:∀ i,i < N→f i=.int .u64 (l.getD i 0)):Sl w w.heap.size 1 (.slice (some ⟨g,0,none⟩) N N) N (kv .u64 l) :=
 ⟨by simp [kv]; omega,some ⟨g,0,none⟩,N,rfl,Nat.le_refl _,hN,fun _ => ⟨g,0,rfl,h.lt,fun i hi => by
  have e:(kv .u64 l)[i]?=some (.int .u64 (l.getD i 0)):=kv_at l (by omega)
  rw [e,Nat.zero_add,h.cell (by omega),hf i (by omega)]⟩⟩
section
variable {w:World} {lo b fb:Nat} {F:FcS} {m:MemS}
set_option maxRecDepth 20000 in
set_option maxHeartbeats 6400000 in
theorem fdb_Bucket (hf:FdbAt w lo b fb F m) (hR:MemR m) (hlo:lo + 3≤w.heap.size) (hfb:fb < w.heap.size) (s n:Nat) (hs:s < F.S) (hn:n < F.B) :
  Calls Tryz.prog 53 #[.pointer (some ⟨fb,0,none⟩),.int .i64 (s:Nat),.int .i64 (n:Nat)] w (Gives 148 F.n (bkM F m.c (s * F.B + n)) id w):=by
 obtain ⟨s0,s1,s2,s3,s4,s5,s6⟩:=hf.at_
 have hfit:=hf.fits
 have hHas:Hid (∀ w',Below w.heap.size w w'→Calls Tryz.prog 94 #[.pointer (some ⟨fb,0,none⟩),.int .i64 (s:Nat),.int .i64 (n:Nat)] w' (Says (.bool true) w')):=fun w' hb => by
  have h9:=fdb_has (hf.below hb) (s:Nat) (n:Nat)
  rw [show hasF F (s:Nat) (n:Nat)=true by unfold hasF; simp; omega] at h9
  exact h9
 have hCel:Hid (∀ w',Below w.heap.size w w'→Calls Tryz.prog 96 #[.pointer (some ⟨fb,0,none⟩),.int .i64 (s:Nat),.int .i64 (n:Nat)] w' (Says (.int .i64 (F.cell (s * F.B + n):Nat)) w')):=fun w' hb => fdb_cell (hf.below hb) s n hs hn
 have hPk:Hid (∀ w' k,k < 2 * F.n→Below w.heap.size w w'→Calls Tryz.prog 95 #[.pointer (some ⟨b,0,none⟩),.int .i64 (F.cell (s * F.B + n) + 1 + k:Nat)] w' fun e w'' => e=.returned (.int .u64 (m.c (F.cell (s * F.B + n) + 1 + k)))∧w'=w''):=fun w' k hk hb => by
  have h9:=mem_Peek (((F.cell (s * F.B + n) + 1 + k:Nat)):Int) (hf.below hb).mem
  rw [(peek_in hfit hs hn hk).1] at h9
  exact h9
 have hCl:Hid (∀ k,k < 2 * F.n→F.cell (s * F.B + n) + 1 + k < 1048576):=fun k hk => (peek_in hfit hs hn hk).2
 have hn8:=hfit.n.2
 have hn1:=hfit.n.1
 have hcell:Hid (∀ w',Below w.heap.size w w'→w'.cell? ⟨fb,0,none⟩=some (.pointer (some ⟨b,0,none⟩))):=fun w' hb => (hb.cell (p:=⟨fb,0,none⟩) hfb).trans s0
 obtain ⟨H,hH⟩:∃ H,H=s * F.B + n:=⟨_,rfl⟩
 rw [← hH] at hCel hPk hCl ⊢
 obtain ⟨cH,hcH⟩:∃ c,c=F.cell H:=⟨_,rfl⟩
 obtain ⟨l,hl⟩:∃ l:List Int,l=(List.range (2 * F.n)).map fun x => m.c (F.cell H + 1 + x):=⟨_,rfl⟩
 have hll:l.length=2 * F.n:=by rw [hl]; simp
 have hlg:Hid (∀ i,i < 2 * F.n→l.getD i 0=m.c (F.cell H + 1 + i)):=fun i hi => by rw [hl]; simp [List.getD,hi]
 have hlr:Hid (∀ x ∈ l,0≤x∧x < 18446744073709551616):=fun x hx => by
  rw [hl] at hx
  obtain ⟨i,_,rfl⟩:=List.mem_map.1 hx
  exact hR _
 have hEnd:Hid (∀ i,i < F.n→(decF fun x => l.getD x 0) i=bkM F m.c H i):=fun i hi => by
  show decP (l.getD (2 * i) 0) (l.getD (2 * i + 1) 0)=decP (m.c (F.cell H + 1 + 2 * i)) (m.c (F.cell H + 1 + (2 * i + 1)))
  rw [hlg.out _ (by omega),hlg.out _ (by omega)]
 rw [← hcH] at hCel hPk hCl hlg
 obtain ⟨Q,hQ⟩:∃ Q:Nat,Q=2 * F.n:=⟨_,rfl⟩
 rw [← hQ] at hlg hPk hCl hll
 have y1:IntKind.i64.wrap (2 * (F.n:Int))=(Q:Int):=by rw [show 2 * (F.n:Int)=(Q:Int) by omega]; exact IntWalk.i64_in _ (by omega)
 have y2:wrap64 (2 * (F.n:Int))=(Q:Int):=by rw [show 2 * (F.n:Int)=(Q:Int) by clear y1; omega]; exact IntWalk.wrap64_in _ (by clear y1; omega)
 have hQ16:Q≤16:=by omega
 have HQ:=Lib.hid hQ
 have HLL:=Lib.hid hll
 have HF9:=Lib.hid hfb
 have s5w:w.cell? ⟨fb,5,none⟩=some (.int .i64 (F.n:Nat)):=s5
 have HDP:=Lib.hid fun (W:World) (v:Value) (hs9:Sl W W.heap.size 1 v Q (kv .u64 l)) => fdb_places hs9 (Nat.le_refl _) hQ (by omega) hlr.out
 clear hf hR hs hn hfit hH hcH hl hll hQ hfb hlo s0 s1 s2 s3 s4 s5 s6
 go_enter Tryz.func53,Tryz.ntmps53
 go_wp2_with fail
 refine (hHas.out w (Below.refl _ _)).mono ?_
 rintro e w1 ⟨rfl,hb1⟩
 have s5:=(hb1.cell (p:=⟨fb,5,none⟩) HF9.out).trans s5w
 have HB1:=Lib.hid hb1
 have hz1:=hb1.size
 have hmk:=run_mkFull (P:=Tryz.prog) w1 stU64s Q (by omega)
 obtain ⟨w0,hw0⟩:∃ w0,w0=w1.alloc (.cells (mkC (.int .u64 0) 1 Q) 38):=⟨_,rfl⟩
 have HR0:Hid (w0.rowIs w1.heap.size 38 Q (fun _ => .int .u64 0)):=by rw [hw0]; exact rowIs_mk rfl rfl
 have HB0:Hid (Below w.heap.size w w0):=by rw [hw0]; exact HB1.out.alloc hz1 _
 rw [← hw0] at hmk
 obtain ⟨g0,hg0⟩:∃ g0,g0=w1.heap.size:=⟨_,rfl⟩
 rw [← hg0] at HR0 hmk hz1
 clear hw0 hg0 hb1 HB1 hHas s5w
 go_wp2
 clear hmk s5 y1 y2
 go_loopw [23] (fun i wr => ∃ k:Nat,k≤Q∧i=.int .i64 k∧Hid (wr.rowIs g0 38 Q (fun j => if j < k then .int .u64 (m.c (cH + 1 + j)) else .int .u64 0))∧Hid (Below w.heap.size w wr)) (fun i _ => Q - (intOf i).toNat)
 case atStart => exact ⟨0,by omega,rfl,HR0.out.congr fun i hi => by simp,HB0.out⟩
 case round =>
  obtain ⟨k,hk,rfl,HR,HB⟩:=hrel
  clear HR0 HB0
  by_cases hlt:k < Q
  ·have g1:(0:Int)≤(k:Int):=Int.natCast_nonneg _
   have g2:(k:Int) < (Q:Int):=by omega
   have hbd:=hCl.out k hlt
   obtain ⟨c1,hc1⟩:∃ c1:Nat,c1=cH + 1:=⟨_,rfl⟩
   obtain ⟨c2,hc2⟩:∃ c2:Nat,c2=c1 + k:=⟨_,rfl⟩
   have z1:IntKind.i64.wrap ((cH:Int) + 1)=(c1:Int):=by rw [show (cH:Int) + 1=(c1:Int) by omega]; exact IntWalk.i64_in _ (by omega)
   have z2:IntKind.i64.wrap ((c1:Int) + (k:Int))=(c2:Int):=by rw [show (c1:Int) + (k:Int)=(c2:Int) by clear z1; omega]; exact IntWalk.i64_in _ (by clear z1; omega)
   have z3:wrap64 ((cH:Int) + 1)=(c1:Int):=by rw [show (cH:Int) + 1=(c1:Int) by clear z1 z2; omega]; exact IntWalk.wrap64_in _ (by clear z1 z2; omega)
   have z4:wrap64 ((c1:Int) + (k:Int))=(c2:Int):=by rw [show (c1:Int) + (k:Int)=(c2:Int) by clear z1 z2 z3; omega]; exact IntWalk.wrap64_in _ (by clear z1 z2 z3; omega)
   have HPK:=Lib.hid fun w' (hb:Below w.heap.size w w') => hPk.out w' k hlt hb
   obtain ⟨x,hx⟩:∃ x,x=m.c (cH + 1 + k):=⟨_,rfl⟩
   rw [← hx,← hc1,← hc2] at HPK
   have HRN:Hid ((fun j => if j=k then Value.int .u64 x else if j < k then .int .u64 (m.c (cH + 1 + j)) else .int .u64 0)=fun j => if j < k + 1 then .int .u64 (m.c (cH + 1 + j)) else .int .u64 0):=Lib.hid (by
    funext j
    clear z1 z2 z3 z4
    by_cases h1:j=k
    ·subst h1; rw [if_pos rfl,if_pos (by omega),hx]
    ·by_cases h2:j < k
     ·rw [if_neg h1,if_pos h2,if_pos (by omega)]
     ·rw [if_neg h1,if_neg h2,if_neg (by omega)])
   have hkk:(if k < k then Value.int .u64 (m.c (cH + 1 + k)) else .int .u64 0)=.int .u64 0:=by simp
   have HKK:=Lib.hid hkk
   have s0:=hcell.out wr HB.out
   clear hx hc1 hc2 hbd hkk
   go_wp2_with fail
   refine wp_region_held_drew (S:=fun w' => w'.cell? ⟨fb,0,none⟩=some (.pointer (some ⟨b,0,none⟩))) (by kernel_rfl) ?_ (fun hHeld => ?_)
   ·exact s0
   obtain ⟨v0,hv0⟩:∃ w',w'=wr.drew:=⟨_,rfl⟩
   have HV:Hid (Below w.heap.size w v0):=by rw [hv0]; exact HB.out.trans ((Below.refl _ _).drew.mono HB.out.size)
   have HRv:Hid (v0.rowIs g0 38 Q (fun j => if j < k then .int .u64 (m.c (cH + 1 + j)) else .int .u64 0)):=by rw [hv0]; exact HR.out.drew
   rw [← hv0] at hHeld ⊢
   clear hv0
   refine tkR 0 rfl ?_
   refine tkR 1 rfl ?_
   refine tkR 2 rfl ?_
   refine tkR 3 rfl ?_
   refine tkR 4 rfl ?_
   refine tkR 5 rfl ?_
   refine tkR 6 rfl ?_
   refine tkR 7 rfl ?_
   refine tkR 8 rfl ?_
   refine tkR 11 rfl ?_
   refine clR 9 rfl fun K hK => ?_
   go_simp
   refine (hCel.out _ HV.out).mono ?_
   rintro e u1 ⟨rfl,hb1⟩
   have HU:=Lib.hid (HV.out.trans (hb1.mono HV.out.size))
   have HRu:=Lib.hid (HRv.out.of_block (hb1.block _ HRv.out.lt))
   have x1:=(HRu.out.cell hlt).trans (congrArg some HKK.out)
   have f1:=HRu.out.frozen k
   clear hb1
   refine hK.out _ _ ?_ (fun hHeld => ?_)
   ·(try dsimp only)
    exact hcell.out _ HU.out
   clear hK K
   refine tkR 10 rfl ?_
   refine tkR 12 rfl ?_
   refine clR 13 rfl fun K hK => ?_
   go_simp
   refine (HPK.out _ HU.out).mono ?_
   rintro e u2 ⟨rfl,rfl⟩
   refine hK.out _ _ ?_ (fun hHeld => ?_)
   ·(try dsimp only)
    exact hcell.out _ HU.out
   clear hK K
   refine tkR 14 rfl ?_
   refine clR 15 rfl fun K hK => ?_
   go_simp
   refine hK.out _ _ ?_ (fun hHeld => ?_)
   ·(try dsimp only)
    exact hcell.out _ (HU.out.setCell hz1 _)
   clear hK K
   (try simp only [Act.put,sqA,sqB,sqC])
   refine wpAnyH_done (by kernel_rfl) ?_ _
   clear hHeld x1 f1
   obtain ⟨u3,hu3⟩:∃ w',w'=u1.setCell ⟨g0,k,none⟩ (.int .u64 x):=⟨_,rfl⟩
   have HS:Hid (u3.rowIs g0 38 Q (fun j => if j=k then Value.int .u64 x else if j < k then .int .u64 (m.c (cH + 1 + j)) else .int .u64 0)):=by rw [hu3]; exact HRu.out.set k _
   have HBS:Hid (Below w.heap.size w u3):=by rw [hu3]; exact HU.out.setCell hz1 _
   rw [← hu3]
   clear hu3 HU HRu HRv HV HR
   go_wp2
   go_roundw
   case rel => exact ⟨k + 1,by omega,by go_num,by rw [← HRN.out]; exact HS.out,HBS.out⟩
   case measure => simp [intOf]; omega
  ·obtain rfl:Q=k:=by omega
   have HPL:=Lib.hid (HDP.out wr (.slice (some ⟨g0,0,none⟩) Q Q) (rowIs_sl HR.out HLL.out (by unfold maxLen; omega) fun i hi => by rw [if_pos hi,hlg.out i hi]))
   have g9:decide ((Q:Int) < (Q:Int))=false:=decide_eq_false (by omega)
   go_wp2_with fail
   refine (HPL.out).mono ?_
   rintro e w5 ⟨v,rfl,hrow,hb5⟩
   have HROW:=Lib.hid hrow
   have HB5:=Lib.hid (HB.out.trans (hb5.mono HB.out.size))
   have HSZ:=Lib.hid HB.out.size
   clear hrow hb5 HPL HDP
   go_wp2
   go_ret
   exact ⟨_,rfl,(HROW.out.base HSZ.out).congr hEnd.out,HB5.out⟩
end
end
section
open Go.RowKit
theorem at_divH {B i:Nat}:(i:Int).tdiv (B:Int)=((i / B:Nat):Int)∧(i:Int).tmod (B:Int)=((i % B:Nat):Int) :=
 ⟨by rw [Int.tdiv_eq_ediv_of_nonneg (by omega)]; simp,by rw [Int.tmod_eq_emod_of_nonneg (by omega)]; simp⟩
theorem wrap_okH {x:Int} {y:Nat} (h:x=(y:Int)) (hy:y < 1000000):wrap64 x=(y:Int)∧IntKind.i64.wrap x=(y:Int):=by
 rw [h]
 exact ⟨IntWalk.wrap64_in _ (by omega),IntWalk.i64_in _ (by omega)⟩
section
variable {w:World} {lo b fb rb L:Nat} {F:FcS} {m:MemS} {N:Nat} {A:Nat→FaS} {ab:Nat→Nat} {Es:Nat→Nat→Prop} {g g9:Nat→Nat→Pl} {K:Nat} {R:Nat→RowV} {V:Nat→Value}
set_option maxRecDepth 20000 in
set_option maxHeartbeats 6400000 in
theorem law12_holds {D:Nat→Prop} {p q:Nat} (hM:RunM w lo b fb rb L F m N A ab Es g K R V) (hk:BkAt w D p q F.S F.B F.n g9) (he:∀ H,H < F.S * F.B→eqP F.n (bkM F m.c H) (g9 H)) :
  Calls Tryz.prog 16 #[.pointer (some ⟨rb,0,none⟩),.pointer (some ⟨p,0,none⟩)] w (Says (.bool true) w):=by
 have hfit:=hM.acts.fd.fits
 have r1:w.cell? ⟨rb,1,none⟩=some (.pointer (some ⟨fb,0,none⟩)):=hM.cell (i:=1) (by omega)
 have r3:w.cell? ⟨rb,3,none⟩=some (.int .i64 (F.B:Nat)):=hM.cell (i:=3) (by omega)
 have hrw:rb < w.heap.size:=by have:=hM.ord; omega
 obtain ⟨hp,hq,_,_,_,_,⟨cap2,x1,x2,x3⟩,_,hrows⟩:=hk
 unfold maxLen at x2
 obtain ⟨M,hMe⟩:∃ M,M=F.S * F.B:=⟨_,rfl⟩
 have hMB:M≤128:=by rw [hMe]; exact hfit.SB.2
 rw [← hMe] at x1 x3 hrows he
 have HFR:=Lib.hid fun w u f (hr:PlRow w w.heap.size u F.n f) => law10_From (show F.n≤1000000 by have:=hfit.n; omega) hr (Nat.le_refl _)
 have HBA:Hid (∀ w' j,j < M→Below w.heap.size w w'→Calls Tryz.prog 53 #[.pointer (some ⟨fb,0,none⟩),.int .i64 (j / F.B:Nat),.int .i64 (j % F.B:Nat)] w' (Gives 148 F.n (g9 j) id w')):=fun w' j hj hb => by
  have hM':=hM.below hb
  have h1:j / F.B < F.S:=(Nat.div_lt_iff_lt_mul hfit.B.1).2 (by rw [← hMe]; exact hj)
  have h2:j % F.B < F.B:=Nat.mod_lt j hfit.B.1
  have h3:j / F.B * F.B + j % F.B=j:=by rw [Nat.mul_comm]; exact Nat.div_add_mod j F.B
  refine (fdb_Bucket hM'.acts.fd hM'.acts.rm (by have:=hM'.ord; have:=hM'.lo3; omega) (by have:=hM'.ord; omega) _ _ h1 h2).mono fun e w'' hg => ?_
  rw [h3] at hg
  exact hg.congr (he j hj)
 have HRS:=Lib.hid hrows
 have HDB:Hid (∀ j,j < M→j / F.B≤128∧j % F.B≤128):=fun j hj => ⟨Nat.le_trans (Nat.div_le_self j F.B) (by omega),Nat.le_trans (Nat.mod_le j F.B) (by omega)⟩
 have hB0:¬ ((F.B:Nat):Int)=0:=by have:=hfit.B; omega
 have hBn0:¬ F.B=0:=by have:=hfit.B; omega
 have hB00:(((F.B:Nat):Int) == 0)=false:=by simp; have:=hfit.B; omega
 clear hM he hfit hMe hrows
 go_enter Tryz.func16,Tryz.ntmps16
 go_wp2
 go_loopw [5] (fun i wr => ∃ j:Nat,j≤M∧i=.int .i64 j∧Hid (Below w.heap.size w wr)) (fun i _ => M - (intOf i).toNat)
 case atStart => exact ⟨0,by omega,rfl,Below.refl _ _⟩
 case round =>
  obtain ⟨j,hj,rfl,HBj⟩:=hrel
  have x3j:wr.cell? ⟨p,3,none⟩=some (.slice (some ⟨q,0,none⟩) M cap2):=(HBj.out.cell (p:=⟨p,3,none⟩) hp).trans x3
  by_cases hjm:j < M
  ·have j0:(0:Int)≤(j:Int):=Int.natCast_nonneg _
   have j1:(j:Int) < (M:Int):=by omega
   obtain ⟨v0,hv0,hrow⟩:=HRS.out j hjm
   have HCE:Hid (∀ w',Below w.heap.size w w'→w'.cell? ⟨rb,1,none⟩=some (.pointer (some ⟨fb,0,none⟩))∧w'.cell? ⟨rb,3,none⟩=some (.int .i64 (F.B:Nat))∧w'.cell? ⟨p,3,none⟩=some (.slice (some ⟨q,0,none⟩) M cap2)∧w'.cell? ⟨q,j,none⟩=some v0):=fun w' hb =>
    ⟨(hb.cell (p:=⟨rb,1,none⟩) hrw).trans r1,(hb.cell (p:=⟨rb,3,none⟩) hrw).trans r3,(hb.cell (p:=⟨p,3,none⟩) hp).trans x3,(hb.cell (p:=⟨q,j,none⟩) hq).trans hv0⟩
   have HRW:Hid (∀ w',Below w.heap.size w w'→PlRow w' w.heap.size v0 F.n (g9 j)):=fun w' hb => hrow.row.below hb
   have HBU:=Lib.hid fun w' (hb:Below w.heap.size w w') => HBA.out w' j hjm hb
   obtain ⟨hd1,hd2⟩:=at_divH (B:=F.B) (i:=j)
   obtain ⟨hdx,hdy⟩:=HDB.out j hjm
   generalize g9 j=fj at *
   generalize j / F.B=dx at *
   generalize j % F.B=dy at *
   obtain ⟨w1',w2'⟩:=wrap_okH (x:=(dx:Int)) rfl (Nat.lt_of_le_of_lt hdx (by decide))
   obtain ⟨w3',w4'⟩:=wrap_okH (x:=(dy:Int)) rfl (Nat.lt_of_le_of_lt hdy (by decide))
   clear hrow hv0 HRS HBA HDB r1 r3 x3
   go_wp2_with fail
   refine wp_region_held_drew (S:=fun w' => w'.cell? ⟨rb,1,none⟩=some (.pointer (some ⟨fb,0,none⟩))∧w'.cell? ⟨rb,3,none⟩=some (.int .i64 (F.B:Nat))∧w'.cell? ⟨p,3,none⟩=some (.slice (some ⟨q,0,none⟩) M cap2)∧w'.cell? ⟨q,j,none⟩=some v0) (by kernel_rfl) ?_ (fun hHeld => ?_)
   ·exact HCE.out _ (HBj.out.trans ((Below.refl _ _).drew.mono HBj.out.size))
   obtain ⟨u0,hu0⟩:∃ w',w'=wr.drew:=⟨_,rfl⟩
   have HU:Hid (Below w.heap.size w u0):=by rw [hu0]; exact HBj.out.trans ((Below.refl _ _).drew.mono HBj.out.size)
   rw [← hu0] at hHeld ⊢
   clear hu0
   refine tkR 0 rfl ?_
   refine tkR 1 rfl ?_
   refine tkR 2 rfl ?_
   refine tkR 3 rfl ?_
   refine tkR 4 rfl ?_
   refine tkR 5 rfl ?_
   refine tkR 6 rfl ?_
   refine tkR 7 rfl ?_
   refine tkR 8 rfl ?_
   refine tkR 9 rfl ?_
   refine tkR 10 rfl ?_
   refine tkR 11 rfl ?_
   refine tkR 12 rfl ?_
   refine tkR 13 rfl ?_
   refine tkR 14 rfl ?_
   refine tkR 15 rfl ?_
   refine tkR 16 rfl ?_
   refine tkR 17 rfl ?_
   refine tkR 20 rfl ?_
   refine tkR 21 rfl ?_
   refine tkR 22 rfl ?_
   refine tkR 23 rfl ?_
   refine tkR 24 rfl ?_
   refine tkR 25 rfl ?_
   refine tkR 26 rfl ?_
   refine clR 18 rfl fun K hK => ?_
   go_simp
   refine (HBU.out _ HU.out).mono ?_
   intro e u1 hpost
   obtain ⟨va,he,hra,hb1⟩:=hpost
   (try simp only [id] at he)
   subst he
   have HU1:=Lib.hid (HU.out.trans (hb1.mono HU.out.size))
   have R1:=Lib.hid hra
   clear hb1 hra
   refine hK.out _ _ ?_ (fun hHeld => ?_)
   ·(try dsimp only)
    exact HCE.out _ HU1.out
   clear hK K
   (try simp only [Act.put,sqA,sqB,sqC])
   refine clR 19 rfl fun K hK => ?_
   go_simp
   refine (HFR.out _ _ _ R1.out.row).mono ?_
   intro e u2 hpost
   obtain ⟨vb,he,hrb,hb2⟩:=hpost
   (try simp only [id] at he)
   subst he
   have HU2:=Lib.hid (HU1.out.trans (hb2.mono HU1.out.size))
   have R2:=Lib.hid hrb
   have HRW2:=Lib.hid (HRW.out _ HU2.out)
   clear hb2 hrb
   refine hK.out _ _ ?_ (fun hHeld => ?_)
   ·(try dsimp only)
    exact HCE.out _ HU2.out
   clear hK K
   (try simp only [Act.put,sqA,sqB,sqC])
   refine clR 27 rfl fun K hK => ?_
   go_simp
   refine (ref10_SameEq R2.out.row HRW2.out).mono ?_
   rintro e u3 ⟨rfl,hb3⟩
   have HU3:=Lib.hid (HU2.out.trans (hb3.mono HU2.out.size))
   clear hb3
   refine hK.out _ _ ?_ (fun hHeld => ?_)
   ·(try dsimp only)
    exact HCE.out _ HU3.out
   clear hK K
   refine tkR 28 rfl ?_
   refine wpAnyH_done (by kernel_rfl) ?_ _
   clear hHeld
   go_wp2
   go_roundw
   case rel => exact ⟨j + 1,by omega,by go_num,HU3.out⟩
   case measure => simp [intOf]; omega
  ·obtain rfl:M=j:=by omega
   have g9':decide ((M:Int) < (M:Int))=false:=decide_eq_false (by omega)
   clear HRS HBA HDB HFR
   go_wp2
   go_ret
   exact ⟨by first | rfl | (simp; done),HBj.out⟩
end
end
end Go.Proofs.YthloabdfkakehaaGreat
