/-
  Words and contracts that a statement's proof rests on (MoE, SrG). No statement is proved here.
-/
import Derived.Deep.DeepCutAuto
import Derived.Test.YtfekhdgjgjodlaaGreatBkC
import Derived.Test.YtfekhdgjgjodlaaGreatMoG
set_option linter.unusedVariables false
set_option linter.unusedSimpArgs false
namespace Go.Proofs.YtfekhdgjgjodlaaGreat
section
open Go.RowKit
set_option maxHeartbeats 800000 in
theorem model_may0 {w:World} {L A S1 Q bp:Nat} {uv:Value} {P r nv:Nat} {lv:List Vl} {st:Nat→Int × Nat} {G:Nat→Value} (h:MdAt w L A S1 Q uv (.pointer (some ⟨bp,0,none⟩)) P r nv lv st G) (po tt vi sx:Int) (kv km me un nw li sh bu id:Int):Calls Tryz.prog 81 #[.pointer (some ⟨A,0,none⟩),opV 0 po tt vi sx kv km me un nw li sh bu id] w (Says (.bool (portB P po)) w):=by
 have HH:=Lib.hid h
 have HP:=Lib.hid fun w' (hb:Below w.heap.size w w') => model_isPort (h.call hb) po
 clear h
 unfold opV
 go_enter Tryz.func81,Tryz.ntmps81
 go_wp2_with fail
 refine (HP.out _ ((Below.refl _ _).alloc (Nat.le_refl _) _)).mono ?_
 rintro e w1 ⟨rfl,hb⟩
 go_wp2
 go_ret
 exact ⟨rfl,((Below.refl _ _).alloc (Nat.le_refl _) _).trans (hb.mono (by simp))⟩
set_option maxHeartbeats 800000 in
theorem model_may2 {w:World} {L A S1 Q bp:Nat} {uv:Value} {P r nv:Nat} {lv:List Vl} {st:Nat→Int × Nat} {G:Nat→Value} (h:MdAt w L A S1 Q uv (.pointer (some ⟨bp,0,none⟩)) P r nv lv st G) (po tt vi sx:Int) (kv km me un nw li sh bu id:Int):Calls Tryz.prog 81 #[.pointer (some ⟨A,0,none⟩),opV 2 po tt vi sx kv km me un nw li sh bu id] w (Says (.bool (portB P po)) w):=by
 have HH:=Lib.hid h
 have HP:=Lib.hid fun w' (hb:Below w.heap.size w w') => model_isPort (h.call hb) po
 clear h
 unfold opV
 go_enter Tryz.func81,Tryz.ntmps81
 go_wp2_with fail
 refine (HP.out _ ((Below.refl _ _).alloc (Nat.le_refl _) _)).mono ?_
 rintro e w1 ⟨rfl,hb⟩
 go_wp2
 go_ret
 exact ⟨rfl,((Below.refl _ _).alloc (Nat.le_refl _) _).trans (hb.mono (by simp))⟩
set_option maxHeartbeats 800000 in
theorem model_may4 {w:World} {L A S1 Q bp:Nat} {uv:Value} {P r nv:Nat} {lv:List Vl} {st:Nat→Int × Nat} {G:Nat→Value} (h:MdAt w L A S1 Q uv (.pointer (some ⟨bp,0,none⟩)) P r nv lv st G) (po tt vi sx:Int) (kv km me un nw li sh bu id:Int):Calls Tryz.prog 81 #[.pointer (some ⟨A,0,none⟩),opV 4 po tt vi sx kv km me un nw li sh bu id] w (Says (.bool (portB P po)) w):=by
 have HH:=Lib.hid h
 have HP:=Lib.hid fun w' (hb:Below w.heap.size w w') => model_isPort (h.call hb) po
 clear h
 unfold opV
 go_enter Tryz.func81,Tryz.ntmps81
 go_wp2_with fail
 refine (HP.out _ ((Below.refl _ _).alloc (Nat.le_refl _) _)).mono ?_
 rintro e w1 ⟨rfl,hb⟩
 go_wp2
 go_ret
 exact ⟨rfl,((Below.refl _ _).alloc (Nat.le_refl _) _).trans (hb.mono (by simp))⟩
set_option maxHeartbeats 800000 in
theorem model_may1 {w:World} {L A S1 Q bp:Nat} {uv:Value} {P r nv:Nat} {lv:List Vl} {st:Nat→Int × Nat} {G:Nat→Value} (h:MdAt w L A S1 Q uv (.pointer (some ⟨bp,0,none⟩)) P r nv lv st G) (po tt vi sx:Int) (kv km me un nw li sh bu id:Int):Calls Tryz.prog 81 #[.pointer (some ⟨A,0,none⟩),opV 1 po tt vi sx kv km me un nw li sh bu id] w (Says (.bool true) w):=by
 clear h
 unfold opV
 go_enter Tryz.func81,Tryz.ntmps81
 go_wp2_with fail
 go_ret
 exact ⟨rfl,(Below.refl _ _).alloc (Nat.le_refl _) _⟩
set_option maxHeartbeats 800000 in
theorem model_may3 {w:World} {L A S1 Q bp:Nat} {uv:Value} {P r nv:Nat} {lv:List Vl} {st:Nat→Int × Nat} {G:Nat→Value} (h:MdAt w L A S1 Q uv (.pointer (some ⟨bp,0,none⟩)) P r nv lv st G) (po tt vi sx:Int) (kv km me un nw li sh bu id:Int):Calls Tryz.prog 81 #[.pointer (some ⟨A,0,none⟩),opV 3 po tt vi sx kv km me un nw li sh bu id] w (Says (.bool true) w):=by
 clear h
 unfold opV
 go_enter Tryz.func81,Tryz.ntmps81
 go_wp2_with fail
 go_ret
 exact ⟨rfl,(Below.refl _ _).alloc (Nat.le_refl _) _⟩
set_option maxHeartbeats 800000 in
theorem model_may5 {w:World} {L A S1 Q bp:Nat} {uv:Value} {P r nv:Nat} {lv:List Vl} {st:Nat→Int × Nat} {G:Nat→Value} (h:MdAt w L A S1 Q uv (.pointer (some ⟨bp,0,none⟩)) P r nv lv st G) (po tt vi sx:Int) (kv km me un nw li sh bu id:Int):Calls Tryz.prog 81 #[.pointer (some ⟨A,0,none⟩),opV 5 po tt vi sx kv km me un nw li sh bu id] w (Says (.bool true) w):=by
 clear h
 unfold opV
 go_enter Tryz.func81,Tryz.ntmps81
 go_wp2_with fail
 go_ret
 exact ⟨rfl,(Below.refl _ _).alloc (Nat.le_refl _) _⟩
set_option maxHeartbeats 800000 in
theorem model_may6 {w:World} {L A S1 Q bp:Nat} {uv:Value} {P r nv:Nat} {lv:List Vl} {st:Nat→Int × Nat} {G:Nat→Value} (h:MdAt w L A S1 Q uv (.pointer (some ⟨bp,0,none⟩)) P r nv lv st G) (po tt vi sx:Int) (kv km me un nw li sh bu id:Int):Calls Tryz.prog 81 #[.pointer (some ⟨A,0,none⟩),opV 6 po tt vi sx kv km me un nw li sh bu id] w (Says (.bool true) w):=by
 clear h
 unfold opV
 go_enter Tryz.func81,Tryz.ntmps81
 go_wp2_with fail
 go_ret
 exact ⟨rfl,(Below.refl _ _).alloc (Nat.le_refl _) _⟩
set_option maxHeartbeats 800000 in
theorem model_may7 {w:World} {L A S1 Q bp:Nat} {uv:Value} {P r nv:Nat} {lv:List Vl} {st:Nat→Int × Nat} {G:Nat→Value} (h:MdAt w L A S1 Q uv (.pointer (some ⟨bp,0,none⟩)) P r nv lv st G) (po tt vi sx:Int) (kv km me un nw li sh bu id:Int):Calls Tryz.prog 81 #[.pointer (some ⟨A,0,none⟩),opV 7 po tt vi sx kv km me un nw li sh bu id] w (Says (.bool true) w):=by
 clear h
 unfold opV
 go_enter Tryz.func81,Tryz.ntmps81
 go_wp2_with fail
 go_ret
 exact ⟨rfl,(Below.refl _ _).alloc (Nat.le_refl _) _⟩
set_option maxHeartbeats 800000 in
theorem model_may9 {w:World} {L A S1 Q bp:Nat} {uv:Value} {P r nv:Nat} {lv:List Vl} {st:Nat→Int × Nat} {G:Nat→Value} (h:MdAt w L A S1 Q uv (.pointer (some ⟨bp,0,none⟩)) P r nv lv st G) (po tt vi sx:Int) (kv km me un nw li sh bu id:Int):Calls Tryz.prog 81 #[.pointer (some ⟨A,0,none⟩),opV 9 po tt vi sx kv km me un nw li sh bu id] w (Says (.bool true) w):=by
 clear h
 unfold opV
 go_enter Tryz.func81,Tryz.ntmps81
 go_wp2_with fail
 go_ret
 exact ⟨rfl,(Below.refl _ _).alloc (Nat.le_refl _) _⟩
set_option maxHeartbeats 1600000 in
theorem model_may10 {w:World} {L A S1 Q bp:Nat} {uv:Value} {P r nv:Nat} {lv:List Vl} {st:Nat→Int × Nat} {G:Nat→Value} (h:MdAt w L A S1 Q uv (.pointer (some ⟨bp,0,none⟩)) P r nv lv st G) (po tt vi sx:Int) (kv km me un nw li sh bu id:Int) (h1:portB P po=true) (h2:portB P tt=true):Calls Tryz.prog 81 #[.pointer (some ⟨A,0,none⟩),opV 10 po tt vi sx kv km me un nw li sh bu id] w (Says (.bool true) w):=by
 have hp1:=fun w' (hb:Below w.heap.size w w') => model_isPort (h.call hb) po
 have hp2:=fun w' (hb:Below w.heap.size w w') => model_isPort (h.call hb) tt
 rw [h1] at hp1
 rw [h2] at hp2
 have HP1:=Lib.hid hp1
 have HP2:=Lib.hid hp2
 clear h h1 h2 hp1 hp2
 unfold opV
 go_enter Tryz.func81,Tryz.ntmps81
 go_wp2_with fail
 refine (HP1.out _ ((Below.refl _ _).alloc (Nat.le_refl _) _)).mono ?_
 rintro e w1 ⟨rfl,hb⟩
 have HB1:Hid (Below w.heap.size w w1):=((Below.refl _ _).alloc (Nat.le_refl _) _).trans (hb.mono (by simp))
 have c2:w1.cell? ⟨w.heap.size,2,none⟩=some (.int .i64 tt):=by
  rw [hb.cell (by show w.heap.size < _; simp)]
  simp [go_sem]
 clear hb
 go_wp2_with fail
 refine (HP2.out _ HB1.out).mono ?_
 rintro e w2 ⟨rfl,hb⟩
 have HB2:Hid (Below w.heap.size w w2):=HB1.out.trans (hb.mono HB1.out.size)
 clear hb c2
 go_wp2
 go_ret
 exact ⟨by first | rfl | (simp; done),HB2.out⟩
set_option maxHeartbeats 1600000 in
theorem model_may11 {w:World} {L A S1 Q bp:Nat} {uv:Value} {P r nv:Nat} {lv:List Vl} {st:Nat→Int × Nat} {G:Nat→Value} (h:MdAt w L A S1 Q uv (.pointer (some ⟨bp,0,none⟩)) P r nv lv st G) (po tt vi sx:Int) (kv km me un nw li sh bu id:Int) (h1:portB P po=true) (h2:portB P tt=true):Calls Tryz.prog 81 #[.pointer (some ⟨A,0,none⟩),opV 11 po tt vi sx kv km me un nw li sh bu id] w (Says (.bool true) w):=by
 have hp1:=fun w' (hb:Below w.heap.size w w') => model_isPort (h.call hb) po
 have hp2:=fun w' (hb:Below w.heap.size w w') => model_isPort (h.call hb) tt
 rw [h1] at hp1
 rw [h2] at hp2
 have HP1:=Lib.hid hp1
 have HP2:=Lib.hid hp2
 clear h h1 h2 hp1 hp2
 unfold opV
 go_enter Tryz.func81,Tryz.ntmps81
 go_wp2_with fail
 refine (HP1.out _ ((Below.refl _ _).alloc (Nat.le_refl _) _)).mono ?_
 rintro e w1 ⟨rfl,hb⟩
 have HB1:Hid (Below w.heap.size w w1):=((Below.refl _ _).alloc (Nat.le_refl _) _).trans (hb.mono (by simp))
 have c2:w1.cell? ⟨w.heap.size,2,none⟩=some (.int .i64 tt):=by
  rw [hb.cell (by show w.heap.size < _; simp)]
  simp [go_sem]
 clear hb
 go_wp2_with fail
 refine (HP2.out _ HB1.out).mono ?_
 rintro e w2 ⟨rfl,hb⟩
 have HB2:Hid (Below w.heap.size w w2):=HB1.out.trans (hb.mono HB1.out.size)
 clear hb c2
 go_wp2
 go_ret
 exact ⟨by first | rfl | (simp; done),HB2.out⟩
theorem portB_in {P p:Nat} (h:p < P):portB P (p:Int)=true:=by
 unfold portB
 simp
 omega
end
section
open Go.RowKit
section
variable {pb n cp lb N:Nat} {key:Nat→Int}
set_option maxRecDepth 20000 in
set_option maxHeartbeats 25600000 in
theorem sym_lo (hn:n≤1000000) {d:Nat} {w:World} {f:Nat→Nat} {a m b:Nat} (IH:(∀ (w:World) (f:Nat→Nat) (a m b:Nat),SrAt w pb n lb N key f→b - a≤d→a < m→m < b→b≤n→SdK key f a m→SdK key f m b→StK key f a b →
   Calls Tryz.prog 97 #[.slice (some ⟨pb,0,none⟩) n cp,.int .i64 (a:Nat),.int .i64 (m:Nat),.int .i64 (b:Nat),(.func (.func 35) #[] #[.pointer (some ⟨lb,0,none⟩)])] w (MgAt w pb n lb N key f a b)))
  (h:SrAt w pb n lb N key f) (hd:b - a≤d + 1) (ham:a < m) (hmb:m < b) (hb:b≤n) (hl:SdK key f a m) (hr:SdK key f m b) (ht:StK key f a b) (hm1:¬ m=a + 1) (hb1:¬ b=m + 1) (hc:¬ (a + b) / 2 < m) :
  Calls Tryz.prog 97 #[.slice (some ⟨pb,0,none⟩) n cp,.int .i64 (a:Nat),.int .i64 (m:Nat),.int .i64 (b:Nat),(.func (.func 35) #[] #[.pointer (some ⟨lb,0,none⟩)])] w (MgAt w pb n lb N key f a b):=by
 have HIH:=Lib.hid IH
 have HS:=Lib.hid h
 have HLR:=Lib.hid (And.intro hl (And.intro hr ht))
 have s0':¬ (m:Int) - (a:Int)=1:=by omega
 have s1':¬ (b:Int) - (m:Int)=1:=by omega
 have s0:(((m:Int) - (a:Int)) == 1)=false:=by simp; omega
 have s1:(((b:Int) - (m:Int)) == 1)=false:=by simp; omega
 obtain ⟨mid,hmid⟩:∃ x,x=(a + b) / 2:=⟨_,rfl⟩
 obtain ⟨nn,hnn⟩:∃ x,x=mid + m:=⟨_,rfl⟩
 obtain ⟨q,hq⟩:∃ x,nn=x + 1:=⟨nn - 1,by omega⟩
 have HE0:=Lib.hid (show ((a:Int) + (b:Int)) / 2=(mid:Int) by omega)
 have HEN:=Lib.hid (show ((mid:Int) + (m:Int))=(nn:Int) by omega)
 have HEQ:=Lib.hid (show ((nn:Int) - 1)=(q:Int) by omega)
 have HMID:=Lib.hid (And.intro hmid (And.intro hnn hq))
 have hmb1:mid < b:=by omega
 have hma1:a≤mid:=by omega
 rw [← hmid] at hc
 clear h hl hr ht hmid hnn hq hm1 hb1 IH
 go_enter Tryz.func97,Tryz.ntmps97
 go_upto_region 25 with fail
 simp only [HE0.out]
 go_upto_region 26 with fail
 simp only [HEN.out]
 clear s0 s1 s0' s1'
 have hn2:nn < 2000000:=by have:=HMID.out; omega
 have hn3:1≤nn:=by have:=HMID.out; omega
 have H0:Hid (m≤mid):=Nat.le_of_not_lt hc
 have h00:a≤m∧m≤m:=by omega
 have d1:decide (mid < m)=false:=decide_eq_false hc
 clear hc
 go_upto_region 32 with fail
 have hq2:q < 2000000:=by have:=HMID.out; omega
 go_wp2
 simp only [HEQ.out]
 go_loopw [20,21] (fun sv rv wr => ∃ (s r:Nat) (wx:World),wx=wr∧sv=.int .i64 s∧rv=.int .i64 r∧a≤s∧s≤r∧r≤m∧Hid (SeK key f a m q s r∧SrAt wr pb n lb N key f∧But pb w wr)) (fun sv rv _ => (intOf rv).toNat - (intOf sv).toNat)
 case atStart => exact ⟨a,m,_,rfl,rfl,rfl,by omega,by omega,by omega,⟨Nat.le_refl _,h00.1,Nat.le_refl _,.inl rfl,.inl rfl⟩,HS.out,But.of (Below.refl _ _) (Nat.le_of_lt HS.out.lt)⟩
 case round =>
  obtain ⟨s,r,wr,rfl,rfl,rfl,hss,hsr,hrr,HI⟩:=hrel
  by_cases hlt:s < r
  ·have d1:decide (s < r)=true:=decide_eq_true hlt
   obtain ⟨c,hc0⟩:∃ c,c=(s + r) / 2:=⟨_,rfl⟩
   have hc1:s≤c:=by omega
   have hc2:c < r:=by omega
   have HEC:=Lib.hid (show ((s:Int) + (r:Int)) / 2=(c:Int) by omega)
   obtain ⟨x,hx⟩:∃ x,x=q - c:=⟨_,rfl⟩
   have hxx:c≤q∧x < n∧c < n:=by have:=H0.out; have:=HMID.out; omega
   have s2:IntKind.i64.wrap (x:Int)=(x:Int):=by rw [IntKind.wrap_i64]; omega
   have s3:(q:Int) - (c:Int)=(x:Int):=by omega
   have hxn:x < n:=hxx.2.1
   have hcn:c < n:=hxx.2.2
   have HX:=Lib.hid hx
   clear hc0 hx hxx
   go_upto_region 35 with fail
   simp only [HEC.out]
   by_cases hk:key (f x) < key (f c)
   ·have hc:=cmp_lt hk
    have HSE:Hid (SeK key f a m q s c):=HI.out.1.down hc1 hc2 (by rw [← HX.out]; exact hk)
    clear hk
    have c1:=HI.out.2.1.row.cell (i:=x) (by omega)
    have c2:=HI.out.2.1.row.cell (i:=c) (by omega)
    refine wp_region_held_drew (S:=fun w' => w'.cell? ⟨pb,x,none⟩=some (.int .i64 (f x:Nat))∧w'.cell? ⟨pb,c,none⟩=some (.int .i64 (f c:Nat))) (by kernel_rfl) ?_ (fun hHeld => ?_)
    ·exact ⟨c1,c2⟩
    obtain ⟨v0,hv0⟩:∃ w',w'=wr.drew:=⟨_,rfl⟩
    have hvb:Below wr.heap.size wr v0:=by rw [hv0]; exact (Below.refl _ _).drew
    have HR0:=Lib.hid (HI.out.2.1.call hvb)
    have HCC:=Lib.hid (hist_Order1 HR0.out.mks (f x) (f c) (HR0.out.mem _ (by omega)) (HR0.out.mem _ (by omega)))
    rw [← hv0] at hHeld ⊢
    clear hv0 c1 c2
    refine tkR 0 rfl ?_
    refine tkR 1 rfl ?_
    refine tkR 2 rfl ?_
    refine tkR 3 rfl ?_
    refine tkR 4 rfl ?_
    refine tkR 5 rfl ?_
    refine tkR 6 rfl ?_
    refine tkR 7 rfl ?_
    refine tkR 8 rfl ?_
    refine tkR 9 rfl ?_
    refine tkR 10 rfl ?_
    refine clR 11 rfl fun K hK => ?_
    go_simp
    refine Calls.mono HCC.out ?_
    rintro e w1 ⟨rfl,hb1⟩
    have hb01:Below wr.heap.size wr w1:=hvb.trans (hb1.mono hvb.size)
    have HSR:=Lib.hid (HI.out.2.1.call hb01)
    have HBU:Hid (But pb w w1):=HI.out.2.2.trans (But.of hb01 (Nat.le_of_lt HI.out.2.1.lt))
    have c1:=HSR.out.row.cell (i:=x) (by omega)
    have c2:=HSR.out.row.cell (i:=c) (by omega)
    clear hb1 hb01
    refine hK.out _ _ ?_ (fun hHeld => ?_)
    ·(try dsimp only)
     exact ⟨c1,c2⟩
    clear hK K
    refine tkR 12 rfl ?_
    refine tkR 13 rfl ?_
    refine wpAnyH_done (by kernel_rfl) ?_ _
    clear hHeld hvb c1 c2 HCC HR0
    clear hc
    go_wp2
    go_roundw
    case rel => exact ⟨s,c,_,rfl,rfl,rfl,by omega,by omega,by omega,Lib.hid ⟨HSE.out,HSR.out,HBU.out⟩⟩
    case measure => simp [intOf]; omega
   ·have hc:=cmp_ge hk
    have HSE:Hid (SeK key f a m q (c + 1) r):=HI.out.1.up hc1 hc2 (by rw [← HX.out]; exact hk)
    clear hk
    have c1:=HI.out.2.1.row.cell (i:=x) (by omega)
    have c2:=HI.out.2.1.row.cell (i:=c) (by omega)
    refine wp_region_held_drew (S:=fun w' => w'.cell? ⟨pb,x,none⟩=some (.int .i64 (f x:Nat))∧w'.cell? ⟨pb,c,none⟩=some (.int .i64 (f c:Nat))) (by kernel_rfl) ?_ (fun hHeld => ?_)
    ·exact ⟨c1,c2⟩
    obtain ⟨v0,hv0⟩:∃ w',w'=wr.drew:=⟨_,rfl⟩
    have hvb:Below wr.heap.size wr v0:=by rw [hv0]; exact (Below.refl _ _).drew
    have HR0:=Lib.hid (HI.out.2.1.call hvb)
    have HCC:=Lib.hid (hist_Order1 HR0.out.mks (f x) (f c) (HR0.out.mem _ (by omega)) (HR0.out.mem _ (by omega)))
    rw [← hv0] at hHeld ⊢
    clear hv0 c1 c2
    refine tkR 0 rfl ?_
    refine tkR 1 rfl ?_
    refine tkR 2 rfl ?_
    refine tkR 3 rfl ?_
    refine tkR 4 rfl ?_
    refine tkR 5 rfl ?_
    refine tkR 6 rfl ?_
    refine tkR 7 rfl ?_
    refine tkR 8 rfl ?_
    refine tkR 9 rfl ?_
    refine tkR 10 rfl ?_
    refine clR 11 rfl fun K hK => ?_
    go_simp
    refine Calls.mono HCC.out ?_
    rintro e w1 ⟨rfl,hb1⟩
    have hb01:Below wr.heap.size wr w1:=hvb.trans (hb1.mono hvb.size)
    have HSR:=Lib.hid (HI.out.2.1.call hb01)
    have HBU:Hid (But pb w w1):=HI.out.2.2.trans (But.of hb01 (Nat.le_of_lt HI.out.2.1.lt))
    have c1:=HSR.out.row.cell (i:=x) (by omega)
    have c2:=HSR.out.row.cell (i:=c) (by omega)
    clear hb1 hb01
    refine hK.out _ _ ?_ (fun hHeld => ?_)
    ·(try dsimp only)
     exact ⟨c1,c2⟩
    clear hK K
    refine tkR 12 rfl ?_
    refine tkR 13 rfl ?_
    refine wpAnyH_done (by kernel_rfl) ?_ _
    clear hHeld hvb c1 c2 HCC HR0
    clear hc
    go_wp2
    go_roundw
    case rel => exact ⟨c + 1,r,_,rfl,by go_num,rfl,by omega,by omega,by omega,Lib.hid ⟨HSE.out,HSR.out,HBU.out⟩⟩
    case measure => simp [intOf]; omega
  ·have d1:decide (s < r)=false:=decide_eq_false hlt
   obtain rfl:s=r:=by omega
   obtain ⟨e,he⟩:∃ e,e=nn - s:=⟨_,rfl⟩
   have HCUT:Hid (CutK key f a m b s e∧s≤mid∧s + (e - m)=mid):=by
    have hx:=HI.out.1.cut ⟨ham,hmb⟩ HMID.out.1 (by have:=HMID.out; omega) (.inr ⟨H0.out,rfl,rfl⟩)
    rw [show mid + m - s=e by have:=HMID.out; omega] at hx
    exact hx
   have HEE:=Lib.hid (show (nn:Int) - (s:Int)=(e:Int) by have:=HMID.out; have:=HCUT.out.2.1; omega)
   obtain ⟨P1,P2,P3,q1,q2,q3,q4,q5,q6,q7⟩:=sym_rest hn (d:=d) HIH.out hd ham hmb hb HI.out.2.1 HI.out.2.2 HLR.out.1 HLR.out.2.1 HLR.out.2.2 HCUT.out.1 (by have:=HMID.out; omega) HCUT.out.2.2
   have Q1:=Lib.hid q1
   have Q2:=Lib.hid q2
   have Q3:=Lib.hid q3
   have Q4:=Lib.hid q4
   have Q5:=Lib.hid q5
   have Q6:=Lib.hid q6
   have Q7:=Lib.hid q7
   have zE:s < mid ↔ m < e:=by have:=HCUT.out; have:=HCUT.out.1.me; constructor <;> intro <;> omega
   have zF:mid < e ↔ s < m:=by have:=HCUT.out; have:=HCUT.out.1.me; constructor <;> intro <;> omega
   have he2:e < 2000000:=by omega
   have hse:s≤nn:=by have:=HMID.out; have:=HCUT.out.2.1; omega
   clear q1 q2 q3 q4 q5 q6 q7 HIH HI HLR H0 he
   go_upto_region 39 with fail
   simp only [HEE.out]
   clear d1
   by_cases zA:s < m <;> by_cases zB:m < e <;> by_cases zC:a < s <;> by_cases zD:e < b
   all_goals (
    first | have dA:=decide_eq_false zA | have dA:=decide_eq_true zA
    first | have dB:=decide_eq_false zB | have dB:=decide_eq_true zB
    first | have dC:=decide_eq_false zC | have dC:=decide_eq_true zC
    first | have dD:=decide_eq_false zD | have dD:=decide_eq_true zD
    first | have dE:=decide_eq_false (mt zE.1 zB) | have dE:=decide_eq_true (zE.2 zB)
    first | have dF:=decide_eq_false (mt zF.1 zA) | have dF:=decide_eq_true (zF.2 zA)
    try (have hp1:=Lib.hid (Q2.out (by omega)))
    try (have hp2:=Lib.hid (Q4.out _ hp1.out (by omega)))
    go_wp2_with first
     | (with_reducible refine Calls.mono (Q1.out zA zB) ?_; rintro _ w1 ⟨rfl,h1⟩; have hp1:=Lib.hid h1; clear h1; try (have hp2:=Lib.hid (Q4.out _ hp1.out (by omega))))
     | (with_reducible refine Calls.mono (Q3.out _ hp1.out zC (zE.2 zB)) ?_; rintro _ w2 ⟨rfl,h1⟩; have hp2:=Lib.hid h1; clear h1)
     | (with_reducible refine Calls.mono (Q5.out _ hp2.out (zF.2 zA) zD) ?_; rintro _ w3 ⟨rfl,h1⟩; have hp3:=Lib.hid h1; clear h1)
     | fail
    first | go_end0 | go_ret
    first | exact Q7.out _ hp3.out | exact Q7.out _ (Q6.out _ hp2.out (by omega)))
end
end
end Go.Proofs.YtfekhdgjgjodlaaGreat
