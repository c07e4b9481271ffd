/-
  Words and contracts that a statement's proof rests on (FdP). No statement is proved here.
-/
import Derived.Test.YthloabdfkakehaaTicks
import Derived.Test.YthloabdfkakehaaBkE
import Derived.Test.YthloabdfkakehaaFdX
set_option linter.unusedVariables false
set_option linter.unusedSimpArgs false
namespace Go.Proofs.Ythloabdfkakehaa
open Go.RowKit
theorem there_new (w:World) (cs:Array Value) (t:TypeId):(w.alloc (.cells cs t)).there w.heap.size 0 cs.size:=fun j hj => by
 have h:=heap_alloc_new w (.cells cs t)
 rw [Nat.zero_add]
 exact ⟨by rw [tgt_on' h j _ (Array.getElem?_eq_getElem hj)]; rfl,tgt_free' h j⟩
theorem there_below {w w':World} {b o n:Nat} (h:w.there b o n) (hb:Below w.heap.size w w') (hlt:b < w.heap.size):w'.there b o n:=fun j hj => by
 rw [hb.cell (p:=⟨b,o + j,none⟩) hlt,hb.frozen (p:=⟨b,o + j,none⟩) hlt]
 exact h j hj
theorem slotT_dec (a b:Nat):slotT a b=.tuple #[.agg #[.int .i64 (decP (a:Int) (b:Int)).e.vid,.int .u64 ((decP (a:Int) (b:Int)).e.mac:Nat),.int .i64 (decP (a:Int) (b:Int)).e.port,.bool (decP (a:Int) (b:Int)).e.st,.int .u32 ((decP (a:Int) (b:Int)).e.stamp:Nat)],.bool (decP (a:Int) (b:Int)).used]:=by
 unfold decP
 rw [Int.toNat_natCast,Int.toNat_natCast]
 cases h:okE a b
 ·rw [slotT_no h]; rfl
 ·rw [slotT_yes h]; rfl
theorem getD_mem {l:List Int} {P:Int→Prop} (h:∀ x ∈ l,P x) {k:Nat} (hk:k < l.length):P (l.getD k 0):=by
 rw [List.getD_eq_getElem?_getD,List.getElem?_eq_getElem hk]
 exact h _ (List.getElem_mem hk)
theorem kv_at (l:List Int) {k:Nat} (hk:k < l.length):(kv .u64 l)[k]?=some (.int .u64 (l.getD k 0)):=by
 rw [List.getD_eq_getElem?_getD,List.getElem?_eq_getElem hk]
 simp [kv,List.getElem?_eq_getElem hk]
section
variable {w:World} {n N B:Nat} {v:Value} {l:List Int}
set_option maxRecDepth 20000 in
set_option maxHeartbeats 6400000 in
theorem fdb_places (hs:Sl w B 1 v N (kv .u64 l)) (hB:B≤w.heap.size) (hN:N=2 * n) (hn:n≤1000) (hl:∀ x ∈ l,0≤x∧x < 18446744073709551616) :
  Calls Try.prog 55 #[v] w (Gives 127 n (decF fun x => l.getD x 0) id w):=by
 obtain ⟨hlen,A,cap,rfl,hc1,hc2,hcell⟩:=hs
 have hll:l.length=N:=by simp [kv] at hlen; omega
 unfold maxLen at hc2
 obtain ⟨f,hf⟩:∃ f,f=decF fun x => l.getD x 0:=⟨_,rfl⟩
 rw [← hf]
 have HF:Hid (∀ k,k < n→∃ X Y:Nat,X < 18446744073709551616∧Y < 18446744073709551616∧(kv .u64 l)[2 * k]?=some (.int .u64 (X:Nat))∧(kv .u64 l)[2 * k + 1]?=some (.int .u64 (Y:Nat))∧decP (X:Int) (Y:Int)=f k):=fun k hk => by
  have e1:=getD_mem hl (k:=2 * k) (by omega)
  have e2:=getD_mem hl (k:=2 * k + 1) (by omega)
  rw [kv_at l (by omega),kv_at l (by omega)]
  refine ⟨(l.getD (2 * k) 0).toNat,(l.getD (2 * k + 1) 0).toNat,by omega,by omega,by rw [Int.toNat_of_nonneg e1.1],by rw [Int.toNat_of_nonneg e2.1],?_⟩
  rw [hf,Int.toNat_of_nonneg e1.1,Int.toNat_of_nonneg e2.1]
  rfl
 have hdiv:(N:Int) / 2=(n:Int):=by omega
 have hNb:N≤2000:=by omega
 obtain ⟨w0,hw0⟩:∃ w0,w0=w.alloc (.cells (mkC (.agg #[.bool false,.int .i64 0,.int .u64 0,.int .i64 0,.bool false,.int .u32 0]) 6 n) 127):=⟨_,rfl⟩
 have HR0:Hid (w0.rowIs w.heap.size 127 (n * 6) (rowP fun _ => pl0)):=by rw [hw0]; exact rowIs_mk6
 have HB0:Hid (Below w.heap.size w w0):=by rw [hw0]; exact (Below.refl _ _).alloc (Nat.le_refl _) _
 have hmk:=run_mkFull (P:=Try.prog) w stPlaces n (by omega)
 rw [← hw0] at hmk
 have HCL:Hid (0 < N→∃ b off,A=some ⟨b,off,none⟩∧b < w.heap.size∧∀ j,j < N→w.cell? ⟨b,off + j,none⟩=(kv .u64 l)[j]?):=fun h => by
  obtain ⟨b,off,e,hb,hc⟩:=hcell h
  exact ⟨b,off,e,by omega,fun j hj => hc j (by omega)⟩
 have HN:=Lib.hid hN
 have HNN:=Lib.hid hn
 clear hw0 hcell hlen hll hf hl hB hN
 go_enter Try.func55,Try.ntmps55
 go_wp2
 clear hmk hdiv
 go_loopw [13] (fun i wr => ∃ k:Nat,k≤n∧i=.int .i64 k∧Hid (wr.rowIs w.heap.size 127 (n * 6) (rowP fun j => if j < k then f j else pl0))∧Hid (Below w.heap.size w wr)) (fun i _ => n - (intOf i).toNat)
 case atStart => exact ⟨0,by omega,rfl,HR0.out.congr fun i hi => by simp,HB0.out⟩
 case round =>
  obtain ⟨k,hk,rfl,HR,HB⟩:=hrel
  by_cases hlt:k < n
  ·obtain ⟨X,Y,hX,hY,hx,hy,hxy⟩:=HF.out k hlt
   have hNn:N=2 * n:=HN.out
   obtain ⟨b,off,rfl,hb,hcl⟩:=HCL.out (by omega)
   obtain ⟨J,hJ⟩:∃ J,J=2 * k:=⟨_,rfl⟩
   obtain ⟨J1,hJ1⟩:∃ J1,J1=J + 1:=⟨_,rfl⟩
   have c1:w.cell? ⟨b,off + J,none⟩=some (.int .u64 (X:Nat)):=(hcl J (by omega)).trans (by rw [hJ]; exact hx)
   have c2:w.cell? ⟨b,off + J1,none⟩=some (.int .u64 (Y:Nat)):=(hcl J1 (by omega)).trans (by rw [hJ1,hJ]; exact hy)
   have hzw:w.heap.size < wr.heap.size:=HR.out.lt
   have HSP:Hid (∀ w',Below wr.heap.size wr w'→w'.cell? ⟨b,off + J,none⟩=some (.int .u64 (X:Nat))∧w'.cell? ⟨b,off + J1,none⟩=some (.int .u64 (Y:Nat))):=fun w' hb' =>
    ⟨(hb'.cell (p:=⟨b,off + J,none⟩) (by show b < _; omega)).trans ((HB.out.cell (p:=⟨b,off + J,none⟩) hb).trans c1),(hb'.cell (p:=⟨b,off + J1,none⟩) (by show b < _; omega)).trans ((HB.out.cell (p:=⟨b,off + J1,none⟩) hb).trans c2)⟩
   have g0:(0:Int)≤(k:Int):=Int.natCast_nonneg _
   have g1:(k:Int) < (n:Int):=by omega
   have j0:(0:Int)≤(J:Int):=Int.natCast_nonneg _
   have j1:(J:Int) < (N:Int):=by omega
   have j2:(0:Int)≤(J1:Int):=Int.natCast_nonneg _
   have j3:(J1:Int) < (N:Int):=by omega
   have y1:IntKind.i64.wrap (2 * (k:Int))=(J:Int):=by rw [show 2 * (k:Int)=(J:Int) by omega]; exact IntWalk.i64_in _ (by omega)
   have y2:IntKind.i64.wrap ((J:Int) + 1)=(J1:Int):=by rw [show (J:Int) + 1=(J1:Int) by clear y1; omega]; exact IntWalk.i64_in _ (by clear y1; omega)
   have hO:=fun W => slot_Of X Y hX hY W
   rw [slotT_dec,hxy] at hO
   obtain ⟨x,hxx⟩:∃ x,x=f k:=⟨_,rfl⟩
   have HNX:Hid ((fun j => if j < k + 1 then f j else pl0)=updP (fun j => if j < k then f j else pl0) k x):=Lib.hid (by
    funext i
    show (if i < k + 1 then f i else pl0)=if i=k then x else if i < k then f i else pl0
    by_cases h1:i=k
    ·subst h1; simp [hxx]
    ·by_cases h2:i < k
     ·rw [if_pos (by clear y1 y2; omega),if_neg h1,if_pos h2]
     ·rw [if_neg (by clear y1 y2; omega),if_neg h1,if_neg h2])
   have HKK:Hid ((if k < k then f k else pl0)=pl0):=Lib.hid (by simp)
   rw [← hxx] at hO
   clear hxx
   obtain ⟨eu,⟨ev,em,ep,es,et⟩⟩:=x
   simp only at hO
   have HO:=Lib.hid hO
   clear hO hxy hx hy hX hY hcl c1 c2 hJ hJ1 hNn
   go_wp2_with fail
   refine wp_region_held_drew (S:=fun w' => w'.cell? ⟨b,off + J,none⟩=some (.int .u64 (X:Nat))∧w'.cell? ⟨b,off + J1,none⟩=some (.int .u64 (Y:Nat))) (by kernel_rfl) ?_ (fun hHeld => ?_)
   ·exact HSP.out _ ((Below.refl _ _).drew)
   obtain ⟨v0,hv0⟩:∃ w',w'=wr.drew:=⟨_,rfl⟩
   have HV:Hid (Below wr.heap.size wr v0):=by rw [hv0]; exact (Below.refl _ _).drew
   rw [← hv0] at hHeld ⊢
   clear hv0
   refine tkR 0 rfl ?_
   refine tkR 1 rfl ?_
   refine tkR 2 rfl ?_
   refine tkR 3 rfl ?_
   refine tkR 4 rfl ?_
   refine tkR 5 rfl ?_
   refine tkR 6 rfl ?_
   refine tkR 7 rfl ?_
   refine tkR 8 rfl ?_
   refine tkR 9 rfl ?_
   refine tkR 10 rfl ?_
   refine wpAnyH_ready (rs:=[11,15]) (by kernel_rfl) (by simp) ?_
   refine (acR rfl (fun K hK => ?_) (acR rfl (fun K hK => ?_) AllReadyH.nil))
   ·go_simp
    refine Calls.mono (HO.out _) ?_
    rintro e w1 ⟨rfl,hb1⟩
    have HB1:Hid (Below wr.heap.size wr w1):=HV.out.trans (hb1.mono HV.out.size)
    clear hb1
    refine hK.out _ _ ?_ (fun hHeld => ?_)
    ·(try dsimp only)
     exact HSP.out _ HB1.out
    clear hK K
    refine tkR 12 rfl ?_
    refine tkR 13 rfl ?_
    refine tkR 14 rfl ?_
    refine wpAnyH_ready (rs:=[15]) (by kernel_rfl) (by simp) ?_
    refine (acR rfl (fun K hK => ?_) AllReadyH.nil)
    go_simp
    refine hK.out _ _ ?_ (fun hHeld => ?_)
    ·(try dsimp only)
     exact HSP.out _ (HB1.out.alloc HB1.out.size _)
    clear hK K
    (try simp only [Act.put,sqA,sqB,sqC])
    obtain ⟨gb,hgb⟩:∃ gb,gb=w1.heap.size:=⟨_,rfl⟩
    obtain ⟨wa,hwa⟩:∃ wa,wa=w1.alloc (.cells #[.int .i64 0,.int .u64 0,.int .i64 0,.bool false,.int .u32 0] 125):=⟨_,rfl⟩
    have HBa:Hid (Below wr.heap.size wr wa):=by rw [hwa]; exact HB1.out.alloc HB1.out.size _
    have HTH:Hid (wa.there gb 0 5):=by rw [hwa,hgb]; exact there_new _ _ _
    have HGB:Hid (wr.heap.size≤gb∧gb < wa.heap.size):=by rw [hwa,hgb]; exact ⟨HB1.out.size,by simp⟩
    rw [← hwa] at hHeld
    rw [← hgb,← hwa]
    clear hgb hwa
    refine wpAnyH_ready (rs:=[16]) (by kernel_rfl) (by simp) ?_
    refine (acR rfl (fun K hK => ?_) AllReadyH.nil)
    refine step_store (by rfl) 125 _ _ (by rfl) gb 0 #[.int .i64 ev,.int .u64 (em:Nat),.int .i64 ep,.bool es,.int .u32 (et:Nat)] (by rfl) (by rfl) HTH.out (by kernel_rfl) (by simp [Value.oneCell']) ?_
    intro w5 hst
    have HB5:Hid (Below wr.heap.size wr w5):=HBa.out.trans (hst.below _ HGB.out.1)
    have e0:w5.cell? ⟨gb,0,none⟩=some (.int .i64 ev):=hst.cells 0 _ rfl
    have e1:w5.cell? ⟨gb,1,none⟩=some (.int .u64 (em:Nat)):=hst.cells 1 _ rfl
    have e2:w5.cell? ⟨gb,2,none⟩=some (.int .i64 ep):=hst.cells 2 _ rfl
    have e3:w5.cell? ⟨gb,3,none⟩=some (.bool es):=hst.cells 3 _ rfl
    have e4:w5.cell? ⟨gb,4,none⟩=some (.int .u32 (et:Nat)):=hst.cells 4 _ rfl
    clear hst HTH HGB
    refine hK.out _ _ ?_ (fun hHeld => ?_)
    ·(try dsimp only)
     exact HSP.out _ HB5.out
    clear hK K
    refine tkR 17 rfl ?_
    refine wpAnyH_done (by kernel_rfl) ?_ _
    have hr5:=HR.out.of_block (HB5.out.block _ HR.out.lt)
    have HR5:=Lib.hid hr5
    obtain ⟨p0,p1,p2,p3,p4,p5⟩:=rowP_holds hr5 hlt
    rw [HKK.out] at p0 p1 p2 p3 p4 p5
    have hfz:=hr5.frozen
    clear hr5 hHeld
    go_wp2
    go_roundw
    case rel =>
     refine ⟨k + 1,by omega,by go_num,?_,?_⟩
     ·show World.rowIs _ _ _ _ _
      rw [HNX.out]
      exact rowP_store HR5.out k eu ev em ep es et
     ·exact setP_below (HB.out.trans (HB5.out.mono HB.out.size)) (Nat.le_refl _) (k * 6) eu ev em ep es et
    case measure => simp [intOf]; omega
   ·go_simp
    refine hK.out _ _ ?_ (fun hHeld => ?_)
    ·(try dsimp only)
     exact HSP.out _ (HV.out.alloc HV.out.size _)
    clear hK K
    (try simp only [Act.put,sqA,sqB,sqC])
    obtain ⟨gb,hgb⟩:∃ gb,gb=v0.heap.size:=⟨_,rfl⟩
    obtain ⟨wa,hwa⟩:∃ wa,wa=v0.alloc (.cells #[.int .i64 0,.int .u64 0,.int .i64 0,.bool false,.int .u32 0] 125):=⟨_,rfl⟩
    have HBa:Hid (Below wr.heap.size wr wa):=by rw [hwa]; exact HV.out.alloc HV.out.size _
    have HTH:Hid (wa.there gb 0 5):=by rw [hwa,hgb]; exact there_new _ _ _
    have HGB:Hid (wr.heap.size≤gb∧gb < wa.heap.size):=by rw [hwa,hgb]; exact ⟨HV.out.size,by simp⟩
    rw [← hwa] at hHeld
    rw [← hgb,← hwa]
    clear hgb hwa
    refine wpAnyH_ready (rs:=[11]) (by kernel_rfl) (by simp) ?_
    refine (acR rfl (fun K hK => ?_) AllReadyH.nil)
    go_simp
    refine Calls.mono (HO.out _) ?_
    rintro e w1 ⟨rfl,hb1⟩
    have HB1:Hid (Below wr.heap.size wr w1):=HBa.out.trans (hb1.mono HBa.out.size)
    have HTH:=Lib.hid (there_below HTH.out hb1 HGB.out.2)
    have HGB:Hid (wr.heap.size≤gb∧gb < w1.heap.size):=Lib.hid ⟨HGB.out.1,Nat.lt_of_lt_of_le HGB.out.2 hb1.size⟩
    clear hb1
    refine hK.out _ _ ?_ (fun hHeld => ?_)
    ·(try dsimp only)
     exact HSP.out _ HB1.out
    clear hK K
    refine tkR 12 rfl ?_
    refine tkR 13 rfl ?_
    refine tkR 14 rfl ?_
    refine wpAnyH_ready (rs:=[16]) (by kernel_rfl) (by simp) ?_
    refine (acR rfl (fun K hK => ?_) AllReadyH.nil)
    refine step_store (by rfl) 125 _ _ (by rfl) gb 0 #[.int .i64 ev,.int .u64 (em:Nat),.int .i64 ep,.bool es,.int .u32 (et:Nat)] (by rfl) (by rfl) HTH.out (by kernel_rfl) (by simp [Value.oneCell']) ?_
    intro w5 hst
    have HB5:Hid (Below wr.heap.size wr w5):=HB1.out.trans (hst.below _ HGB.out.1)
    have e0:w5.cell? ⟨gb,0,none⟩=some (.int .i64 ev):=hst.cells 0 _ rfl
    have e1:w5.cell? ⟨gb,1,none⟩=some (.int .u64 (em:Nat)):=hst.cells 1 _ rfl
    have e2:w5.cell? ⟨gb,2,none⟩=some (.int .i64 ep):=hst.cells 2 _ rfl
    have e3:w5.cell? ⟨gb,3,none⟩=some (.bool es):=hst.cells 3 _ rfl
    have e4:w5.cell? ⟨gb,4,none⟩=some (.int .u32 (et:Nat)):=hst.cells 4 _ rfl
    clear hst HTH HGB
    refine hK.out _ _ ?_ (fun hHeld => ?_)
    ·(try dsimp only)
     exact HSP.out _ HB5.out
    clear hK K
    refine tkR 17 rfl ?_
    refine wpAnyH_done (by kernel_rfl) ?_ _
    have hr5:=HR.out.of_block (HB5.out.block _ HR.out.lt)
    have HR5:=Lib.hid hr5
    obtain ⟨p0,p1,p2,p3,p4,p5⟩:=rowP_holds hr5 hlt
    rw [HKK.out] at p0 p1 p2 p3 p4 p5
    have hfz:=hr5.frozen
    clear hr5 hHeld
    go_wp2
    go_roundw
    case rel =>
     refine ⟨k + 1,by omega,by go_num,?_,?_⟩
     ·show World.rowIs _ _ _ _ _
      rw [HNX.out]
      exact rowP_store HR5.out k eu ev em ep es et
     ·exact setP_below (HB.out.trans (HB5.out.mono HB.out.size)) (Nat.le_refl _) (k * 6) eu ev em ep es et
    case measure => simp [intOf]; omega
  ·have:k=n:=by omega
   subst this
   go_wp2
   go_ret
   refine ⟨_,rfl,⟨_,k,rfl,Nat.le_refl _,by have:=HNN.out; simp [maxLen]; omega,fun _ => ⟨w.heap.size,_,rfl,Nat.le_refl _,HR.out,fun j hj => by unfold rowP; simp [show j / 6 < k by omega]⟩⟩,HB.out⟩
end
end Go.Proofs.Ythloabdfkakehaa
