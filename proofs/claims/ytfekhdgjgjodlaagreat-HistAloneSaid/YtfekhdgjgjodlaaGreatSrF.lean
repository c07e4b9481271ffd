/-
  Words and contracts that a statement's proof rests on (SrF, SrH, PlainSv, SrI, MoY). No statement is proved here.
-/
import Derived.Deep.DeepCutAuto
import Derived.Test.YtfekhdgjgjodlaaGreatBkC
import Derived.Test.YtfekhdgjgjodlaaGreatMoX
import Derived.Test.YtfekhdgjgjodlaaGreatMoE
import Derived.Test.YtfekhdgjgjodlaaGreatSrA
import Derived.Test.YtfekhdgjgjodlaaGreatMoF
set_option linter.unusedVariables false
set_option linter.unusedSimpArgs false
namespace Go.Proofs.YtfekhdgjgjodlaaGreat
section
open Go.RowKit
section
variable {pb n cp lb N:Nat} {key:Nat→Int}
set_option maxRecDepth 20000 in
set_option maxHeartbeats 25600000 in
theorem sym_hi (hn:n≤1000000) {d:Nat} {w:World} {f:Nat→Nat} {a m b:Nat} (IH:(∀ (w:World) (f:Nat→Nat) (a m b:Nat),SrAt w pb n lb N key f→b - a≤d→a < m→m < b→b≤n→SdK key f a m→SdK key f m b→StK key f a b →
   Calls Tryz.prog 97 #[.slice (some ⟨pb,0,none⟩) n cp,.int .i64 (a:Nat),.int .i64 (m:Nat),.int .i64 (b:Nat),(.func (.func 35) #[] #[.pointer (some ⟨lb,0,none⟩)])] w (MgAt w pb n lb N key f a b)))
  (h:SrAt w pb n lb N key f) (hd:b - a≤d + 1) (ham:a < m) (hmb:m < b) (hb:b≤n) (hl:SdK key f a m) (hr:SdK key f m b) (ht:StK key f a b) (hm1:¬ m=a + 1) (hb1:¬ b=m + 1) (hc:(a + b) / 2 < m) :
  Calls Tryz.prog 97 #[.slice (some ⟨pb,0,none⟩) n cp,.int .i64 (a:Nat),.int .i64 (m:Nat),.int .i64 (b:Nat),(.func (.func 35) #[] #[.pointer (some ⟨lb,0,none⟩)])] w (MgAt w pb n lb N key f a b):=by
 have HIH:=Lib.hid IH
 have HS:=Lib.hid h
 have HLR:=Lib.hid (And.intro hl (And.intro hr ht))
 have s0':¬ (m:Int) - (a:Int)=1:=by omega
 have s1':¬ (b:Int) - (m:Int)=1:=by omega
 have s0:(((m:Int) - (a:Int)) == 1)=false:=by simp; omega
 have s1:(((b:Int) - (m:Int)) == 1)=false:=by simp; omega
 obtain ⟨mid,hmid⟩:∃ x,x=(a + b) / 2:=⟨_,rfl⟩
 obtain ⟨nn,hnn⟩:∃ x,x=mid + m:=⟨_,rfl⟩
 obtain ⟨q,hq⟩:∃ x,nn=x + 1:=⟨nn - 1,by omega⟩
 have HE0:=Lib.hid (show ((a:Int) + (b:Int)) / 2=(mid:Int) by omega)
 have HEN:=Lib.hid (show ((mid:Int) + (m:Int))=(nn:Int) by omega)
 have HEQ:=Lib.hid (show ((nn:Int) - 1)=(q:Int) by omega)
 have HMID:=Lib.hid (And.intro hmid (And.intro hnn hq))
 have hmb1:mid < b:=by omega
 have hma1:a≤mid:=by omega
 rw [← hmid] at hc
 clear h hl hr ht hmid hnn hq hm1 hb1 IH
 go_enter Tryz.func97,Tryz.ntmps97
 go_upto_region 25 with fail
 simp only [HE0.out]
 go_upto_region 26 with fail
 simp only [HEN.out]
 clear s0 s1 s0' s1'
 have hn2:nn < 2000000:=by have:=HMID.out; omega
 have hn3:1≤nn:=by have:=HMID.out; omega
 obtain ⟨s0,hs0⟩:∃ x,x=mid + m - b:=⟨_,rfl⟩
 have H0:Hid (mid < m∧s0=mid + m - b):=⟨hc,hs0⟩
 have HES:=Lib.hid (show ((nn:Int) - (b:Int))=(s0:Int) by have:=HMID.out; omega)
 have h00:s0≤mid∧mid≤m:=by have:=HMID.out; omega
 have hn4:b≤nn:=by have:=HMID.out; omega
 have d1:decide (mid < m)=true:=decide_eq_true hc
 clear hs0 hc
 go_upto_region 32 with fail
 simp only [HES.out]
 have hq2:q < 2000000:=by have:=HMID.out; omega
 go_wp2
 simp only [HEQ.out]
 go_loopw [20,21] (fun sv rv wr => ∃ (s r:Nat) (wx:World),wx=wr∧sv=.int .i64 s∧rv=.int .i64 r∧s0≤s∧s≤r∧r≤mid∧Hid (SeK key f s0 mid q s r∧SrAt wr pb n lb N key f∧But pb w wr)) (fun sv rv _ => (intOf rv).toNat - (intOf sv).toNat)
 case atStart => exact ⟨s0,mid,_,rfl,rfl,rfl,by omega,by omega,by omega,⟨Nat.le_refl _,h00.1,Nat.le_refl _,.inl rfl,.inl rfl⟩,HS.out,But.of (Below.refl _ _) (Nat.le_of_lt HS.out.lt)⟩
 case round =>
  obtain ⟨s,r,wr,rfl,rfl,rfl,hss,hsr,hrr,HI⟩:=hrel
  by_cases hlt:s < r
  ·have d1:decide (s < r)=true:=decide_eq_true hlt
   obtain ⟨c,hc0⟩:∃ c,c=(s + r) / 2:=⟨_,rfl⟩
   have hc1:s≤c:=by omega
   have hc2:c < r:=by omega
   have HEC:=Lib.hid (show ((s:Int) + (r:Int)) / 2=(c:Int) by omega)
   obtain ⟨x,hx⟩:∃ x,x=q - c:=⟨_,rfl⟩
   have hxx:c≤q∧x < n∧c < n:=by have:=H0.out; have:=HMID.out; omega
   have s2:IntKind.i64.wrap (x:Int)=(x:Int):=by rw [IntKind.wrap_i64]; omega
   have s3:(q:Int) - (c:Int)=(x:Int):=by omega
   have hxn:x < n:=hxx.2.1
   have hcn:c < n:=hxx.2.2
   have HX:=Lib.hid hx
   clear hc0 hx hxx
   go_upto_region 35 with fail
   simp only [HEC.out]
   by_cases hk:key (f x) < key (f c)
   ·have hc:=cmp_lt hk
    have HSE:Hid (SeK key f s0 mid q s c):=HI.out.1.down hc1 hc2 (by rw [← HX.out]; exact hk)
    clear hk
    have c1:=HI.out.2.1.row.cell (i:=x) (by omega)
    have c2:=HI.out.2.1.row.cell (i:=c) (by omega)
    refine wp_region_held_drew (S:=fun w' => w'.cell? ⟨pb,x,none⟩=some (.int .i64 (f x:Nat))∧w'.cell? ⟨pb,c,none⟩=some (.int .i64 (f c:Nat))) (by kernel_rfl) ?_ (fun hHeld => ?_)
    ·exact ⟨c1,c2⟩
    obtain ⟨v0,hv0⟩:∃ w',w'=wr.drew:=⟨_,rfl⟩
    have hvb:Below wr.heap.size wr v0:=by rw [hv0]; exact (Below.refl _ _).drew
    have HR0:=Lib.hid (HI.out.2.1.call hvb)
    have HCC:=Lib.hid (hist_Order1 HR0.out.mks (f x) (f c) (HR0.out.mem _ (by omega)) (HR0.out.mem _ (by omega)))
    rw [← hv0] at hHeld ⊢
    clear hv0 c1 c2
    refine tkR 0 rfl ?_
    refine tkR 1 rfl ?_
    refine tkR 2 rfl ?_
    refine tkR 3 rfl ?_
    refine tkR 4 rfl ?_
    refine tkR 5 rfl ?_
    refine tkR 6 rfl ?_
    refine tkR 7 rfl ?_
    refine tkR 8 rfl ?_
    refine tkR 9 rfl ?_
    refine tkR 10 rfl ?_
    refine clR 11 rfl fun K hK => ?_
    go_simp
    refine Calls.mono HCC.out ?_
    rintro e w1 ⟨rfl,hb1⟩
    have hb01:Below wr.heap.size wr w1:=hvb.trans (hb1.mono hvb.size)
    have HSR:=Lib.hid (HI.out.2.1.call hb01)
    have HBU:Hid (But pb w w1):=HI.out.2.2.trans (But.of hb01 (Nat.le_of_lt HI.out.2.1.lt))
    have c1:=HSR.out.row.cell (i:=x) (by omega)
    have c2:=HSR.out.row.cell (i:=c) (by omega)
    clear hb1 hb01
    refine hK.out _ _ ?_ (fun hHeld => ?_)
    ·(try dsimp only)
     exact ⟨c1,c2⟩
    clear hK K
    refine tkR 12 rfl ?_
    refine tkR 13 rfl ?_
    refine wpAnyH_done (by kernel_rfl) ?_ _
    clear hHeld hvb c1 c2 HCC HR0
    clear hc
    go_wp2
    go_roundw
    case rel => exact ⟨s,c,_,rfl,rfl,rfl,by omega,by omega,by omega,Lib.hid ⟨HSE.out,HSR.out,HBU.out⟩⟩
    case measure => simp [intOf]; omega
   ·have hc:=cmp_ge hk
    have HSE:Hid (SeK key f s0 mid q (c + 1) r):=HI.out.1.up hc1 hc2 (by rw [← HX.out]; exact hk)
    clear hk
    have c1:=HI.out.2.1.row.cell (i:=x) (by omega)
    have c2:=HI.out.2.1.row.cell (i:=c) (by omega)
    refine wp_region_held_drew (S:=fun w' => w'.cell? ⟨pb,x,none⟩=some (.int .i64 (f x:Nat))∧w'.cell? ⟨pb,c,none⟩=some (.int .i64 (f c:Nat))) (by kernel_rfl) ?_ (fun hHeld => ?_)
    ·exact ⟨c1,c2⟩
    obtain ⟨v0,hv0⟩:∃ w',w'=wr.drew:=⟨_,rfl⟩
    have hvb:Below wr.heap.size wr v0:=by rw [hv0]; exact (Below.refl _ _).drew
    have HR0:=Lib.hid (HI.out.2.1.call hvb)
    have HCC:=Lib.hid (hist_Order1 HR0.out.mks (f x) (f c) (HR0.out.mem _ (by omega)) (HR0.out.mem _ (by omega)))
    rw [← hv0] at hHeld ⊢
    clear hv0 c1 c2
    refine tkR 0 rfl ?_
    refine tkR 1 rfl ?_
    refine tkR 2 rfl ?_
    refine tkR 3 rfl ?_
    refine tkR 4 rfl ?_
    refine tkR 5 rfl ?_
    refine tkR 6 rfl ?_
    refine tkR 7 rfl ?_
    refine tkR 8 rfl ?_
    refine tkR 9 rfl ?_
    refine tkR 10 rfl ?_
    refine clR 11 rfl fun K hK => ?_
    go_simp
    refine Calls.mono HCC.out ?_
    rintro e w1 ⟨rfl,hb1⟩
    have hb01:Below wr.heap.size wr w1:=hvb.trans (hb1.mono hvb.size)
    have HSR:=Lib.hid (HI.out.2.1.call hb01)
    have HBU:Hid (But pb w w1):=HI.out.2.2.trans (But.of hb01 (Nat.le_of_lt HI.out.2.1.lt))
    have c1:=HSR.out.row.cell (i:=x) (by omega)
    have c2:=HSR.out.row.cell (i:=c) (by omega)
    clear hb1 hb01
    refine hK.out _ _ ?_ (fun hHeld => ?_)
    ·(try dsimp only)
     exact ⟨c1,c2⟩
    clear hK K
    refine tkR 12 rfl ?_
    refine tkR 13 rfl ?_
    refine wpAnyH_done (by kernel_rfl) ?_ _
    clear hHeld hvb c1 c2 HCC HR0
    clear hc
    go_wp2
    go_roundw
    case rel => exact ⟨c + 1,r,_,rfl,by go_num,rfl,by omega,by omega,by omega,Lib.hid ⟨HSE.out,HSR.out,HBU.out⟩⟩
    case measure => simp [intOf]; omega
  ·have d1:decide (s < r)=false:=decide_eq_false hlt
   obtain rfl:s=r:=by omega
   obtain ⟨e,he⟩:∃ e,e=nn - s:=⟨_,rfl⟩
   have HCUT:Hid (CutK key f a m b s e∧s≤mid∧s + (e - m)=mid):=by
    have hx:=HI.out.1.cut ⟨ham,hmb⟩ HMID.out.1 (by have:=HMID.out; omega) (.inl ⟨H0.out.1,H0.out.2,rfl⟩)
    rw [show mid + m - s=e by have:=HMID.out; omega] at hx
    exact hx
   have HEE:=Lib.hid (show (nn:Int) - (s:Int)=(e:Int) by have:=HMID.out; have:=HCUT.out.2.1; omega)
   obtain ⟨P1,P2,P3,q1,q2,q3,q4,q5,q6,q7⟩:=sym_rest hn (d:=d) HIH.out hd ham hmb hb HI.out.2.1 HI.out.2.2 HLR.out.1 HLR.out.2.1 HLR.out.2.2 HCUT.out.1 (by have:=HMID.out; omega) HCUT.out.2.2
   have Q1:=Lib.hid q1
   have Q2:=Lib.hid q2
   have Q3:=Lib.hid q3
   have Q4:=Lib.hid q4
   have Q5:=Lib.hid q5
   have Q6:=Lib.hid q6
   have Q7:=Lib.hid q7
   have zE:s < mid ↔ m < e:=by have:=HCUT.out; have:=HCUT.out.1.me; constructor <;> intro <;> omega
   have zF:mid < e ↔ s < m:=by have:=HCUT.out; have:=HCUT.out.1.me; constructor <;> intro <;> omega
   have he2:e < 2000000:=by omega
   have hse:s≤nn:=by have:=HMID.out; have:=HCUT.out.2.1; omega
   clear q1 q2 q3 q4 q5 q6 q7 HIH HI HLR H0 he
   go_upto_region 39 with fail
   simp only [HEE.out]
   clear d1
   by_cases zA:s < m <;> by_cases zB:m < e <;> by_cases zC:a < s <;> by_cases zD:e < b
   all_goals (
    first | have dA:=decide_eq_false zA | have dA:=decide_eq_true zA
    first | have dB:=decide_eq_false zB | have dB:=decide_eq_true zB
    first | have dC:=decide_eq_false zC | have dC:=decide_eq_true zC
    first | have dD:=decide_eq_false zD | have dD:=decide_eq_true zD
    first | have dE:=decide_eq_false (mt zE.1 zB) | have dE:=decide_eq_true (zE.2 zB)
    first | have dF:=decide_eq_false (mt zF.1 zA) | have dF:=decide_eq_true (zF.2 zA)
    try (have hp1:=Lib.hid (Q2.out (by omega)))
    try (have hp2:=Lib.hid (Q4.out _ hp1.out (by omega)))
    go_wp2_with first
     | (with_reducible refine Calls.mono (Q1.out zA zB) ?_; rintro _ w1 ⟨rfl,h1⟩; have hp1:=Lib.hid h1; clear h1; try (have hp2:=Lib.hid (Q4.out _ hp1.out (by omega))))
     | (with_reducible refine Calls.mono (Q3.out _ hp1.out zC (zE.2 zB)) ?_; rintro _ w2 ⟨rfl,h1⟩; have hp2:=Lib.hid h1; clear h1)
     | (with_reducible refine Calls.mono (Q5.out _ hp2.out (zF.2 zA) zD) ?_; rintro _ w3 ⟨rfl,h1⟩; have hp3:=Lib.hid h1; clear h1)
     | fail
    first | go_end0 | go_ret
    first | exact Q7.out _ hp3.out | exact Q7.out _ (Q6.out _ hp2.out (by omega)))
end
end
section
open Go.RowKit
section
variable {pb n cp lb N:Nat} {key:Nat→Int}
set_option maxRecDepth 20000 in
set_option maxHeartbeats 25600000 in
theorem sym_merge (hn:n≤1000000):∀ (d:Nat) (w:World) (f:Nat→Nat) (a m b:Nat),SrAt w pb n lb N key f→b - a≤d→a < m→m < b→b≤n→SdK key f a m→SdK key f m b→StK key f a b →
  Calls Tryz.prog 97 #[.slice (some ⟨pb,0,none⟩) n cp,.int .i64 (a:Nat),.int .i64 (m:Nat),.int .i64 (b:Nat),(.func (.func 35) #[] #[.pointer (some ⟨lb,0,none⟩)])] w (MgAt w pb n lb N key f a b)
 | 0,w,f,a,m,b,_,hd,ham,hmb,_,_,_,_ => absurd hd (by omega)
 | d + 1,w,f,a,m,b,h,hd,ham,hmb,hb,hl,hr,ht => by
  by_cases hm1:m=a + 1
  ·subst hm1
   exact sym_left h hn (by omega) hb hr ht
  by_cases hb1:b=m + 1
  ·subst hb1
   exact sym_right h hn (by omega) hb hl ht
  by_cases hc:(a + b) / 2 < m
  ·exact sym_hi hn (sym_merge hn d) h hd ham hmb hb hl hr ht hm1 hb1 hc
  ·exact sym_lo hn (sym_merge hn d) h hd ham hmb hb hl hr ht hm1 hb1 hc
end
end
section
section
variable {n:Nat} {key:Nat→Int}
theorem blk_round {f f1 f2:Nat→Nat} {a b k B:Nat} (ha:a=k * B) (hb:b=a + B) (hbn:b≤n) (hk:BlK key f1 n B k) (ht:StK key f1 0 n) (hi:ImK f f1 0 n) (h:MgK key f1 f2 a b) :
  b=(k + 1) * B∧BlK key f2 n B (k + 1)∧StK key f2 0 n∧ImK f f2 0 n:=by
 subst ha
 refine ⟨by rw [hb,Nat.add_mul,Nat.one_mul],hk.step ?_,h.whole ht (Nat.zero_le _) hbn,hi.trans (h.im.mono (Nat.zero_le _) hbn)⟩
 rw [show min (k * B + B) n=b by omega]
 exact h
theorem blk_last {f f1 f2:Nat→Nat} {a k B:Nat} (ha:a=k * B) (han:a≤n) (hb:n < a + B) (hk:BlK key f1 n B k) (ht:StK key f1 0 n) (hi:ImK f f1 0 n) (h:MgK key f1 f2 a n) :
  (∀ k,BlK key f2 n B k)∧StK key f2 0 n∧ImK f f2 0 n:=by
 subst ha
 refine ⟨fun k2 x hx => ?_,h.whole ht (Nat.zero_le _) (Nat.le_refl _),hi.trans (h.im.mono (Nat.zero_le _) (Nat.le_refl _))⟩
 have hs:BlK key f2 n B (k + 1):=hk.step (by rw [show min (k * B + B) n=n by omega]; exact h)
 rcases Nat.lt_or_ge x (k + 1) with c | c
 ·exact hs x c
 ·have h3:=Nat.mul_le_mul_right B c
  rw [Nat.add_mul,Nat.one_mul] at h3
  intro p q p1 p2 p3
  omega
theorem blk_all {f:Nat→Nat} {B:Nat} (h:∀ k,BlK key f n B k) (hB:n≤B):SdK key f 0 n:=by
 have h1:=h 1 0 (by omega)
 rw [Nat.zero_mul,show min (0 + B) n=n by omega] at h1
 exact h1
theorem pr_pre {g:Nat→Nat} {a k B:Nat} (ha:a=k * (2 * B)) (h:∀ x,2 * k≤x→SdK key g (x * B) (min (x * B + B) n)):SdK key g a (min (a + B) n)∧SdK key g (a + B) (min (a + 2 * B) n):=by
 have e1:2 * k * B=k * (2 * B):=by rw [Nat.mul_comm 2 k,Nat.mul_assoc]
 have h1:=h (2 * k) (Nat.le_refl _)
 have h2:=h (2 * k + 1) (by omega)
 rw [Nat.add_mul,Nat.one_mul] at h2
 rw [e1,← ha] at h1 h2
 refine ⟨h1,?_⟩
 rw [show a + 2 * B=a + B + B by omega]
 exact h2
theorem pr_rest {g g2:Nat→Nat} {a b k B:Nat} (ha:a=k * (2 * B)) (hb:b≤a + 2 * B) (h:∀ x,2 * k≤x→SdK key g (x * B) (min (x * B + B) n)) (hm:MgK key g g2 a b):∀ x,2 * (k + 1)≤x→SdK key g2 (x * B) (min (x * B + B) n):=fun x hx => by
 refine hm.beside (h x (by omega)) (.inr ?_)
 have h3:=Nat.mul_le_mul_right B (show 2 * k + 2≤x by omega)
 rw [Nat.add_mul,Nat.mul_comm 2 k,Nat.mul_assoc,← ha] at h3
 omega
end
end
section
open Go.RowKit
section
variable {pb n cp lb N:Nat} {key:Nat→Int}
set_option maxRecDepth 20000 in
set_option maxHeartbeats 12800000 in
theorem stable_row (hn:n≤1000000) {w:World} {f:Nat→Nat} (h:SrAt w pb n lb N key f) (ht:StK key f 0 n) :
  Calls Tryz.prog 62 #[.slice (some ⟨pb,0,none⟩) n cp,.int .i64 (n:Nat),(.func (.func 35) #[] #[.pointer (some ⟨lb,0,none⟩)])] w (MgAt w pb n lb N key f 0 n):=by
 have HS:=Lib.hid h
 have HT:=Lib.hid ht
 clear h ht
 go_enter Tryz.func62,Tryz.ntmps62
 go_wp2
 go_loopw [7,8] (fun av bv wr => ∃ (k a b:Nat) (g:Nat→Nat) (wx:World),wx=wr∧av=.int .i64 a∧bv=.int .i64 b∧a≤n∧b=a + 20∧Hid (a=k * 20∧BlK key g n 20 k∧StK key g 0 n∧ImK f g 0 n∧SrAt wr pb n lb N key g∧But pb w wr)) (fun av bv _ => n + 21 - (intOf bv).toNat)
 case atStart => exact ⟨0,0,20,f,_,rfl,rfl,rfl,Nat.zero_le _,rfl,rfl,fun x hx => absurd hx (Nat.not_lt_zero x),HT.out,ImK.refl _ _ _,HS.out,But.of (Below.refl _ _) (Nat.le_of_lt HS.out.lt)⟩
 case round =>
  obtain ⟨k,a,b,g,wr,rfl,rfl,rfl,han,hba,HI⟩:=hrel
  by_cases hlt:b≤n
  ·have d1:decide (b≤n)=true:=decide_eq_true hlt
   have HC:=Lib.hid (ins_sort (cp:=cp) (a:=a) (b:=b) HI.out.2.2.2.2.1 hn (by omega) hlt (HI.out.2.2.1.mono (Nat.zero_le _) hlt))
   obtain ⟨c,hc⟩:∃ c,c=b + 20:=⟨_,rfl⟩
   have HCE:=Lib.hid hc
   have HB:=Lib.hid hba
   clear hba hc
   go_wp2_with first
    | (with_reducible refine Calls.mono HC.out ?_; rintro _ w1 ⟨rfl,g1,m1,m2,m3⟩; have HM:=Lib.hid (And.intro (blk_round HI.out.1 HB.out hlt HI.out.2.1 HI.out.2.2.1 HI.out.2.2.2.1 m1) (And.intro m2 (HI.out.2.2.2.2.2.trans m3))); clear m1 m2 m3)
    | fail
   go_roundw
   case rel => exact ⟨k + 1,b,c,g1,_,rfl,rfl,by first | rfl | (have:=HCE.out; congr 1 <;> omega),hlt,HCE.out,HM.out.1.1,HM.out.1.2.1,HM.out.1.2.2.1,HM.out.1.2.2.2,HM.out.2.1,HM.out.2.2⟩
   case measure => have:=HCE.out; have:=HB.out; simp [intOf]; omega
  ·have d1:decide (b≤n)=false:=decide_eq_false hlt
   have HC:=Lib.hid (ins_sort (cp:=cp) (a:=a) (b:=n) HI.out.2.2.2.2.1 hn han (Nat.le_refl _) (HI.out.2.2.1.mono (Nat.zero_le _) (Nat.le_refl _)))
   have HL:Hid (∀ {g1:Nat→Nat},MgK key g g1 a n→(∀ k,BlK key g1 n 20 k)∧StK key g1 0 n∧ImK f g1 0 n):=fun {g1} m1 => blk_last HI.out.1 han (by omega) HI.out.2.1 HI.out.2.2.1 HI.out.2.2.2.1 m1
   have HBU:Hid (But pb w wr):=HI.out.2.2.2.2.2
   clear hba HI hlt
   go_wp2_with first
    | (with_reducible refine Calls.mono HC.out ?_; rintro _ w1 ⟨rfl,g1,m1,m2,m3⟩; have HM:=Lib.hid (And.intro (HL.out m1) (And.intro m2 (HBU.out.trans m3))); clear m1 m2 m3)
    | fail
   clear HC HL HBU d1
   go_loopw [6,7,8,9] (fun Bv av bv mv wr => ∃ (B:Nat) (g:Nat→Nat) (wx:World),wx=wr∧Bv=.int .i64 B∧1≤B∧B < 2000000∧Hid ((∀ k,BlK key g n B k)∧StK key g 0 n∧ImK f g 0 n∧SrAt wr pb n lb N key g∧But pb w wr)) (fun Bv av bv mv _ => n + n + n - (intOf Bv).toNat)
   case atStart => exact ⟨20,g1,_,rfl,rfl,by omega,by omega,HM.out.1.1,HM.out.1.2.1,HM.out.1.2.2,HM.out.2.1,HM.out.2.2⟩
   case round =>
    obtain ⟨B,g2,wr,rfl,rfl,hB1,hB2,HI⟩:=hrel
    by_cases hlt:B < n
    ·have d2:decide (B < n)=true:=decide_eq_true hlt
     obtain ⟨C,hC⟩:∃ C,C=2 * B:=⟨_,rfl⟩
     have HC2:=Lib.hid hC
     have HEC:=Lib.hid (show 2 * (B:Int)=(C:Int) by omega)
     have hC3:C < 2000000:=by omega
     clear hC
     go_wp2
     (try simp only [HEC.out])
     go_loopw [7,8] (fun av bv wr => ∃ (k a b:Nat) (g:Nat→Nat) (wx:World),wx=wr∧av=.int .i64 a∧bv=.int .i64 b∧a≤n∧b=a + C∧Hid (a=k * (2 * B)∧BlK key g n (2 * B) k∧(∀ x,2 * k≤x→SdK key g (x * B) (min (x * B + B) n))∧StK key g 0 n∧ImK f g 0 n∧SrAt wr pb n lb N key g∧But pb w wr)) (fun av bv _ => n + C + 1 - (intOf bv).toNat)
     case atStart => exact ⟨0,0,C,g2,_,rfl,rfl,rfl,Nat.zero_le _,by omega,by omega,fun x hx => absurd hx (Nat.not_lt_zero x),fun x _ => HI.out.1 (x + 1) x (by omega),HI.out.2.1,HI.out.2.2.1,HI.out.2.2.2.1,HI.out.2.2.2.2⟩
     case round =>
      obtain ⟨k,a,b,g,wr,rfl,rfl,rfl,han,hba,HJ⟩:=hrel
      have HPP:=Lib.hid (pr_pre HJ.out.1 HJ.out.2.2.1)
      have HB2:=Lib.hid (show b=a + 2 * B by rw [hba,HC2.out])
      by_cases hlt2:b≤n
      ·have d3:decide (b≤n)=true:=decide_eq_true hlt2
       have hcall:=sym_merge (cp:=cp) hn (b - a) wr g a (a + B) b HJ.out.2.2.2.2.2.1 (Nat.le_refl _) (by omega) (by have:=HB2.out; omega) hlt2 (by have h1:=HPP.out.1; rw [show min (a + B) n=a + B by have:=HB2.out; omega] at h1; exact h1) (by have h1:=HPP.out.2; rw [show min (a + 2 * B) n=b by have:=HB2.out; omega] at h1; exact h1) (HJ.out.2.2.2.1.mono (Nat.zero_le _) hlt2)
       rw [show ((a + B:Nat):Int)=(a:Int) + (B:Int) by omega] at hcall
       have HC:=Lib.hid hcall
       obtain ⟨c,hc⟩:∃ c,c=b + C:=⟨_,rfl⟩
       have HCE:=Lib.hid hc
       have HB:=Lib.hid hba
       clear hba hc hcall HPP
       go_wp2_with first
        | ((with_reducible refine Calls.mono HC.out ?_); rintro _ w1 ⟨rfl,g3,m1,m2,m3⟩; have HM:=Lib.hid (And.intro (blk_round HJ.out.1 HB2.out hlt2 HJ.out.2.1 HJ.out.2.2.2.1 HJ.out.2.2.2.2.1 m1) (And.intro m2 (And.intro (HJ.out.2.2.2.2.2.2.trans m3) (pr_rest HJ.out.1 (Nat.le_of_eq HB2.out) HJ.out.2.2.1 m1)))); clear m1 m2 m3)
        | fail
       go_roundw
       case rel => exact ⟨k + 1,b,c,g3,_,rfl,rfl,by first | rfl | (have:=HCE.out; have:=HC2.out; congr 1 <;> omega),hlt2,HCE.out,HM.out.1.1,HM.out.1.2.1,HM.out.2.2.2,HM.out.1.2.2.1,HM.out.1.2.2.2,HM.out.2.1,HM.out.2.2.1⟩
       case measure => have:=HCE.out; have:=HB.out; simp [intOf]; omega
      ·have d3:decide (b≤n)=false:=decide_eq_false hlt2
       obtain ⟨m,hm⟩:∃ m,m=a + B:=⟨_,rfl⟩
       have HEM:=Lib.hid (show (a:Int) + (B:Int)=(m:Int) by omega)
       have HLAST:Hid (∀ {g1:Nat→Nat},MgK key g g1 a n→(∀ k,BlK key g1 n C k)∧StK key g1 0 n∧ImK f g1 0 n):=fun {g1} m1 => by
        rw [HC2.out]
        exact blk_last HJ.out.1 han (by have:=HB2.out; omega) HJ.out.2.1 HJ.out.2.2.2.1 HJ.out.2.2.2.2.1 m1
       have hst:StK key g a n:=HJ.out.2.2.2.1.mono (Nat.zero_le _) (Nat.le_refl _)
       have HEB:=Lib.hid (show (B:Int) * 2=(C:Int) by have:=HC2.out; omega)
       by_cases hmn:m < n
       ·have d4:decide (m < n)=true:=decide_eq_true hmn
        have HC:=Lib.hid (sym_merge (cp:=cp) hn (n - a) wr g a m n HJ.out.2.2.2.2.2.1 (Nat.le_refl _) (by omega) hmn (Nat.le_refl _) (by have h1:=HPP.out.1; rw [show min (a + B) n=m by omega] at h1; exact h1) (by have h1:=HPP.out.2; rw [show min (a + 2 * B) n=n by have:=HB2.out; omega,← hm] at h1; exact h1) hst)
        clear hm hba hst hlt2 HPP
        go_upto_region 14 with fail
        simp only [HEM.out]
        go_wp2_with first
         | ((with_reducible refine Calls.mono HC.out ?_); rintro _ w1 ⟨rfl,g3,m1,m2,m3⟩; have HM:=Lib.hid (And.intro (HLAST.out m1) (And.intro m2 (HJ.out.2.2.2.2.2.2.trans m3))); clear m1 m2 m3)
         | fail
        go_roundw
        case rel => exact ⟨C,g3,_,rfl,by first | rfl | (have:=HC2.out; congr 1 <;> omega),by have:=HC2.out; omega,hC3,HM.out.1.1,HM.out.1.2.1,HM.out.1.2.2,HM.out.2.1,HM.out.2.2⟩
        case measure => have:=HC2.out; simp [intOf]; omega
       ·have d4:decide (m < n)=false:=decide_eq_false hmn
        have HM:=Lib.hid (HLAST.out (MgK.same (by have h1:=HPP.out.1; rw [show min (a + B) n=n by omega] at h1; exact h1) hst))
        clear hm hba hst hlt2 HPP
        go_upto_region 14 with fail
        simp only [HEM.out]
        go_wp2
        go_roundw
        case rel => exact ⟨C,g,_,rfl,by first | rfl | (have:=HC2.out; congr 1 <;> omega),by have:=HC2.out; omega,hC3,HM.out.1,HM.out.2.1,HM.out.2.2,HJ.out.2.2.2.2.2.1,HJ.out.2.2.2.2.2.2⟩
        case measure => have:=HC2.out; simp [intOf]; omega
    ·have d2:decide (B < n)=false:=decide_eq_false hlt
     have HF:Hid (MgAt w pb n lb N key f 0 n (.returned (.tuple #[])) wr):=⟨rfl,g2,⟨HI.out.2.2.1,blk_all HI.out.1 (by omega),HI.out.2.1⟩,HI.out.2.2.2.1,HI.out.2.2.2.2⟩
     go_wp2
     first | go_end0 | go_ret
     exact HF.out
end
end
section
open Go.RowKit
theorem within_fx {k:Nat} (hk:0 < k) (hk2:k≤5000) (x:Int):withinI ((1 + fx k x:Nat):Int) (k:Int)=true:=by
 have:=fx_lt hk x
 unfold withinI
 simp only [Bool.and_eq_true,decide_eq_true_eq]
 omega
theorem fix_good (lr:List Rl) (lv:List Vl) (P0 a b c t r:Int) (P S B n T G nv:Nat) (hP:P=2 + fx 7 P0) (hT:T=1 + fx 8 t) (hG:G=1 + fx 64 r) (hS:S=1 + fx 8 a) (hB:B=1 + fx 16 b) (hn:n=1 + fx 8 c) :
  planK (checkN (fixVs (allN P) lv (min nv 8)) P (min nv 8)) (decide ((P:Int)=P)) (!decide (P < P)) (rightS S B n && (withinI T 8 && withinI G 64))=0:=by
 have h0:=fx_lt (k:=7) (by omega) P0
 have h1:=fx_lt (k:=8) (by omega) a
 have h2:=fx_lt (k:=16) (by omega) b
 have h3:=fx_lt (k:=8) (by omega) c
 rw [fixVs_check lv (P:=P) (by omega) (by omega) (by omega)]
 have e1:rightS (S:Nat) (B:Nat) (n:Nat)=true:=by
  unfold rightS inB
  simp
  omega
 have e2:withinI (T:Nat) 8=true:=by rw [hT]; exact within_fx (k:=8) (by omega) (by omega) t
 have e3:withinI (G:Nat) 64=true:=by rw [hG]; exact within_fx (k:=64) (by omega) (by omega) r
 rw [e1,e2,e3]
 simp [planK]
theorem told_nil (w:World) (B:Nat):Sl w B 2 (.slice none 0 0) 0 (rlc []):=⟨rfl,none,0,rfl,Nat.le_refl _,Nat.zero_le _,fun h => absurd h (by omega)⟩
end
end Go.Proofs.YtfekhdgjgjodlaaGreat
