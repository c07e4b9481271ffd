/-
  Words and contracts that a statement's proof rests on (VlanH, BkD, MoA). No statement is proved here.
-/
import Derived.Lib.Hide
import Derived.Test.YtfekhdgjgjodlaaVlanD
import Derived.Test.YtfekhdgjgjodlaaKeyA
import Derived.Test.YtfekhdgjgjodlaaBkC
import Derived.Test.YtfekhdgjgjodlaaPlainPt
set_option linter.unusedVariables false
set_option linter.unusedSimpArgs false
namespace Go.Proofs.Ytfekhdgjgjodlaa
section
open Go.RowKit
set_option maxHeartbeats 3200000 in
theorem vlan_Check {l:List Vl} {n:Nat} {v:Value} {w:World} {B:Nat} (hok:∀ x ∈ l,x.ok) (hv:Sl w B 3 v n (vlc l)) (hB:B≤w.heap.size) (ports:Int) :
  Calls Try.prog 33 #[v,.int .i64 ports] w (Says (.int .i64 (checkN l ports n:Nat)) w):=by
 obtain ⟨A,cap,rfl,hcap,hmx⟩:=hv.form
 have hmx':=hmx
 unfold maxLen at hmx'
 by_cases hp:ports < 2 ∨ 64 < ports
 ·rw [check5 hp]
  clear hv
  rcases hp with hp | hp
  ·go_enter Try.func33,Try.ntmps33
   go_wp2
   go_ret
   exact ⟨rfl,Below.refl _ _⟩
  ·have hp2:¬ ports < 2:=by omega
   go_enter Try.func33,Try.ntmps33
   go_wp2
   go_ret
   exact ⟨rfl,Below.refl _ _⟩
 ·have hp1:¬ ports < 2:=by omega
  have hp2:¬ 64 < ports:=by omega
  by_cases h16:16 < n
  ·rw [check8 hp h16]
   have h16':(16:Int) < (n:Int):=by omega
   clear hv hp
   go_enter Try.func33,Try.ntmps33
   go_wp2
   go_ret
   exact ⟨rfl,Below.refl _ _⟩
  ·have h16':¬ (16:Int) < (n:Int):=by omega
   obtain ⟨C,hC⟩:∃ C,C=checkN l ports n:=⟨_,rfl⟩
   rw [← hC]
   have HC:=Lib.hid hC
   have HP:=Lib.hid hp
   have H16:=Lib.hid h16
   have HV:=Lib.hid hv
   have HOK:=Lib.hid hok
   have hal:=allN_lt ports
   have hAll:=fun W => vlan_All ports W
   obtain ⟨al,hal0⟩:∃ al,al=allN ports:=⟨_,rfl⟩
   rw [← hal0] at hAll hal
   have HALL:=Lib.hid hAll
   have HAL:=Lib.hid hal0
   clear hC hp h16 hv hok hAll hal0
   go_enter Try.func33,Try.ntmps33
   go_wp2
   go_loopw [5,19] (fun a i wr => ∃ k:Nat,k≤n∧i=.int .i64 k∧a=.int .i64 (aheadN l k)∧Hid (∀ i,i < k→wrongAt l ports i=0)∧Hid (Below w.heap.size w wr)) (fun _ i _ => n - (intOf i).toNat)
   case atStart => exact ⟨0,by omega,rfl,rfl,fun i hi => by omega,Below.refl _ _⟩
   case round =>
    obtain ⟨k,hk,rfl,rfl,HF,HBW⟩:=hrel
    rename_i wr _
    by_cases hlt:k < n
    ·obtain ⟨b,off,cap',hvv,_,_,hb,hlen,hcell⟩:=HV.out.vlAt (show 0 < n by omega)
     injection hvv with e1 _ e2
     subst e1 e2
     obtain ⟨c0,c1,c2⟩:=hcell k hlt
     have hbw:=(bcell HBW.out).1
     have e0:=(hbw b (off + k * 3) (by omega)).trans c0
     have e1:=(hbw b (off + k * 3 + 1) (by omega)).trans c1
     have e2:=(hbw b (off + k * 3 + 2) (by omega)).trans c2
     have hxok:=vl_ok HOK.out k
     have hnext:Hid (aheadN l (k + 1)=(l.getD k vl0).vid):=by show _=_; unfold aheadN; rw [if_neg (by omega)]; rfl
     obtain ⟨x,hx⟩:∃ x,x=l.getD k vl0:=⟨_,rfl⟩
     obtain ⟨ah,hah⟩:∃ ah,ah=aheadN l k:=⟨_,rfl⟩
     have W6a:=Lib.hid (@wrong6a l ports k)
     have W6b:=Lib.hid (@wrong6b l ports k)
     have W5:=Lib.hid (@wrong5 l ports k)
     have W1:=Lib.hid (@wrong1 l ports k)
     have W0:=Lib.hid (@wrong0 l ports k)
     rw [← hx,← hah] at W6b W5 W1 W0
     rw [← hx] at W6a e0 e1 e2 hxok hnext
     rw [← HAL.out] at W5 W1 W0
     rw [← hah]
     have hV:=fun W => vlan_rightVid x.vid W
     obtain ⟨vb,hvb⟩:∃ vb,vb=vidB x.vid:=⟨_,rfl⟩
     rw [← hvb] at hV W6a W6b W5 W1 W0
     have HVV:=Lib.hid hV
     have hq1:=u64_andNot_nat x.mem al hxok.2.1 hal
     have hq2:=u64_andNot_nat x.unt x.mem hxok.2.2 hxok.2.1
     have hn1:=andNot_within hxok.2.1 hal
     have hn2:=andNot_within hxok.2.2 hxok.2.1
     generalize x.mem &&& (18446744073709551615 - al)=m1 at *
     generalize x.unt &&& (18446744073709551615 - x.mem)=m2 at *
     have hsz:=HBW.out.size
     clear hbw c0 c1 c2 hx hah hvb hV hcell hlen hxok HV HOK HAL
     cases vb
     ·have HW:Hid (C=6):=by show C=6; rw [HC.out]; exact checkAt HP.out H16.out HF.out hlt (W6a.out rfl) (by omega)
      clear W6a W6b W5 W1 W0 HF hn1 hn2 hq1 hq2
      go_wp2_with fail
      refine (HVV.out _).mono ?_
      rintro e w1 ⟨rfl,rfl⟩
      go_wp2
      go_ret
      exact ⟨ret_i64 (by rw [HW.out]; rfl),HBW.out.alloc hsz _⟩
     ·by_cases hle:x.vid≤ah
      ·have HW:Hid (C=6):=by show C=6; rw [HC.out]; exact checkAt HP.out H16.out HF.out hlt (W6b.out rfl hle) (by omega)
       clear W6a W6b W5 W1 W0 HF hn1 hn2 hq1 hq2
       go_wp2_with fail
       refine (HVV.out _).mono ?_
       rintro e w1 ⟨rfl,rfl⟩
       go_wp2
       go_ret
       exact ⟨ret_i64 (by rw [HW.out]; rfl),HBW.out.alloc hsz _⟩
      ·cases hw1:withinB x.mem al
       ·have HW:Hid (C=5):=by show C=5; rw [HC.out]; exact checkAt HP.out H16.out HF.out hlt (W5.out rfl hle hw1) (by omega)
        rw [hw1] at hn1
        clear W6a W6b W5 W1 W0 HF hn2 hq2 hw1
        go_wp2_with fail
        refine (HVV.out _).mono ?_
        rintro e w1 ⟨rfl,rfl⟩
        go_wp2_with fail
        go_quiet ((go_at_call 44; exact still0 HALL.out _ _))
        go_wp2
        go_ret
        exact ⟨ret_i64 (by rw [HW.out]; rfl),below_drewN (HBW.out.alloc hsz _) _⟩
       ·cases hw2:withinB x.unt x.mem
        ·have HW:Hid (C=1):=by show C=1; rw [HC.out]; exact checkAt HP.out H16.out HF.out hlt (W1.out rfl hle hw1 hw2) (by omega)
         rw [hw1] at hn1
         rw [hw2] at hn2
         clear W6a W6b W5 W1 W0 HF hw1 hw2
         go_wp2_with fail
         refine (HVV.out _).mono ?_
         rintro e w1 ⟨rfl,rfl⟩
         go_wp2_with fail
         go_quiet ((go_at_call 44; exact still0 HALL.out _ _))
         go_wp2
         go_ret
         exact ⟨ret_i64 (by rw [HW.out]; rfl),below_drewN (HBW.out.alloc hsz _) _⟩
        ·have HF2:=Lib.hid (all_step HF.out (W0.out rfl hle hw1 hw2))
         rw [hw1] at hn1
         rw [hw2] at hn2
         clear W6a W6b W5 W1 W0 HF hw1 hw2
         go_wp2_with fail
         refine (HVV.out _).mono ?_
         rintro e w1 ⟨rfl,rfl⟩
         go_wp2_with fail
         go_quiet ((go_at_call 44; exact still0 HALL.out _ _))
         go_wp2
         go_roundw
         case rel => exact ⟨k + 1,by omega,by go_num,by rw [hnext.out],HF2.out,below_drewN (HBW.out.alloc hsz _) _⟩
         case measure => simp [intOf]; omega
    ·have:k=n:=by omega
     subst this
     go_wp2
     go_ret
     exact ⟨ret_i64 (by rw [HC.out,check0 HP.out H16.out HF.out]; rfl),HBW.out⟩
end
section
open Go.RowKit
def inB (x y:Int):Bool:=decide (1≤x) && decide (x≤y)
def rightS (a b c:Int):Bool:=(inB a 8 && inB b 16) && inB c 8
set_option maxHeartbeats 800000 in
theorem book_within (x y:Int) (w:World) :
  Calls Try.prog 47 #[.int .i64 x,.int .i64 y] w (Says (.bool (inB x y)) w):=by
 unfold inB
 by_cases h:1≤x
 ·have d:decide (1≤x)=true:=by simpa using h
  rw [d]
  by_cases h2:x≤y
  ·have d2:decide (x≤y)=true:=by simpa using h2
   rw [d2]
   clear d d2
   go_enter Try.func47,Try.ntmps47
   go_wp2
   go_ret
   exact ⟨by simp,Below.refl _ _⟩
  ·have d2:decide (x≤y)=false:=by simpa using h2
   rw [d2]
   clear d d2
   go_enter Try.func47,Try.ntmps47
   go_wp2
   go_ret
   exact ⟨by simp,Below.refl _ _⟩
 ·have d:decide (1≤x)=false:=by simpa using h
  rw [d]
  clear d
  go_enter Try.func47,Try.ntmps47
  go_wp2
  go_ret
  exact ⟨by simp,Below.refl _ _⟩
set_option maxHeartbeats 3200000 in
theorem book_Right (a b c:Int) (w:World) :
  Calls Try.prog 36 #[.agg #[.int .i64 a,.int .i64 b,.int .i64 c]] w (Says (.bool (rightS a b c)) w):=by
 have H1:=Lib.hid fun W => book_within a 8 W
 have H2:=Lib.hid fun W => book_within b 16 W
 have H3:=Lib.hid fun W => book_within c 8 W
 unfold rightS
 generalize inB a 8=x at *
 generalize inB b 16=y at *
 generalize inB c 8=z at *
 cases x
 ·go_enter Try.func36,Try.ntmps36
  go_wp2_with fail
  refine (H1.out _).mono ?_
  rintro e w1 ⟨rfl,hb⟩
  have HB1:Hid (Below w.heap.size w w1):=Below.trans ((Below.refl _ _).alloc (Nat.le_refl _) _) (hb.mono (by simp))
  clear hb
  go_wp2
  go_ret
  exact ⟨by simp,HB1.out⟩
 ·cases y
  ·go_enter Try.func36,Try.ntmps36
   go_wp2_with fail
   refine (H1.out _).mono ?_
   rintro e w1 ⟨rfl,hb⟩
   have HB1:Hid (Below w.heap.size w w1):=Below.trans ((Below.refl _ _).alloc (Nat.le_refl _) _) (hb.mono (by simp))
   have k1:w1.cell? ⟨w.heap.size,1,none⟩=some (.int .i64 b):=by rw [(bcell hb).1 _ _ (by simp)]; simp [go_sem]
   clear hb
   go_wp2_with fail
   refine (H2.out _).mono ?_
   rintro e w2 ⟨rfl,hb⟩
   have HB2:Hid (Below w.heap.size w w2):=HB1.out.trans (hb.mono HB1.out.size)
   clear hb
   go_wp2
   go_ret
   exact ⟨by simp,HB2.out⟩
  ·go_enter Try.func36,Try.ntmps36
   go_wp2_with fail
   refine (H1.out _).mono ?_
   rintro e w1 ⟨rfl,hb⟩
   have HB1:Hid (Below w.heap.size w w1):=Below.trans ((Below.refl _ _).alloc (Nat.le_refl _) _) (hb.mono (by simp))
   have k1:w1.cell? ⟨w.heap.size,1,none⟩=some (.int .i64 b):=by rw [(bcell hb).1 _ _ (by simp)]; simp [go_sem]
   have k2:w1.cell? ⟨w.heap.size,2,none⟩=some (.int .i64 c):=by rw [(bcell hb).1 _ _ (by simp)]; simp [go_sem]
   have hz:w.heap.size + 1≤w1.heap.size:=by have:=hb.size; simpa using this
   clear hb
   go_wp2_with fail
   refine (H2.out _).mono ?_
   rintro e w2 ⟨rfl,hb⟩
   have HB2:Hid (Below w.heap.size w w2):=HB1.out.trans (hb.mono HB1.out.size)
   have k2:=((bcell hb).1 w.heap.size 2 (by omega)).trans k2
   clear hb
   go_wp2_with fail
   refine (H3.out _).mono ?_
   rintro e w3 ⟨rfl,hb⟩
   have HB3:Hid (Below w.heap.size w w3):=HB2.out.trans (hb.mono HB2.out.size)
   clear hb
   go_wp2
   go_ret
   exact ⟨by simp,HB3.out⟩
end
section
open Go.RowKit
theorem model_within (n most:Int) (w:World):Calls Try.prog 37 #[.int .i64 n,.int .i64 most] w (Says (.bool (withinI n most)) w):=by
 unfold withinI
 by_cases h1:1≤n
 ·have d1:decide (n ≥ 1)=true:=by simp; omega
  have d2:decide (1≤n)=true:=by simp; omega
  go_enter Try.func37,Try.ntmps37
  go_wp2
  go_ret
  exact ⟨by first | rfl | (simp; done) | simp [d2],Below.refl _ _⟩
 ·have d1:decide (n ≥ 1)=false:=by simp; omega
  have d2:decide (1≤n)=false:=by simp; omega
  go_enter Try.func37,Try.ntmps37
  go_wp2
  go_ret
  exact ⟨by first | rfl | (simp; done) | simp [d2],Below.refl _ _⟩
theorem model_isWrong (p a:Int) (w:World):Calls Try.prog 35 #[.agg #[.int .i64 p,.int .i64 a]] w (Says (.bool (!(ruleB p a))) w):=by
 have HR:=Lib.hid fun W => vlan_Right p a W
 obtain ⟨z,hz⟩:∃ z,z=ruleB p a:=⟨_,rfl⟩
 rw [← hz] at HR ⊢
 clear hz
 go_enter Try.func35,Try.ntmps35
 go_wp2_with fail
 refine (HR.out _).mono ?_
 rintro e w1 ⟨rfl,hb⟩
 go_wp2
 go_ret
 exact ⟨rfl,((Below.refl _ _).alloc (Nat.le_refl _) _).trans (hb.mono (by simp))⟩
set_option maxRecDepth 20000 in
set_option maxHeartbeats 1600000 in
theorem index_rules {w:World} {B n m:Nat} {v:Value} {l:List Rl} (hv:Sl w B 2 v n (rlc l)) (hB:B≤w.heap.size) (hf:FirstBad l n m) :
  Calls Try.prog 45 #[v,.func (.func 35) #[] #[]] w (Says (.int .i64 (if m < n then (m:Int) else -1)) w):=by
 obtain ⟨A,cap,rfl,hcap,hmx⟩:=hv.form
 unfold maxLen at hmx
 have HV:=Lib.hid hv
 have HF:=Lib.hid hf
 obtain ⟨X,hX⟩:∃ X:Int,X=if m < n then (m:Int) else -1:=⟨_,rfl⟩
 rw [← hX]
 have HX:=Lib.hid hX
 have HW:=Lib.hid fun p a W => model_isWrong p a W
 have hmn:=hf.1
 clear hv hf hX
 go_enter Try.func45,Try.ntmps45
 go_wp2
 go_loopw [8] (fun i wr => ∃ k:Nat,k≤m∧i=.int .i64 k∧Hid (Below w.heap.size w wr)) (fun i _ => n - (intOf i).toNat)
 case atStart => exact ⟨0,by omega,rfl,Below.refl _ _⟩
 case round =>
  obtain ⟨k,hk,rfl,HB⟩:=hrel
  by_cases hlt:k < n
  ·obtain ⟨b,off,cap',e,hc1,hc2,hb,hlen,hcell⟩:=HV.out.rlAt (by omega)
   cases e
   obtain ⟨c0,c1⟩:=hcell k hlt
   have k0:=(HB.out.cell (p:=⟨b,off + k * 2,none⟩) (by show b < _; omega)).trans c0
   have k1:=(HB.out.cell (p:=⟨b,off + k * 2 + 1,none⟩) (by show b < _; omega)).trans c1
   have HK:=HW.out (l.getD k rl0).pv (l.getD k rl0).ac
   have hbad:(!(ruleB (l.getD k rl0).pv (l.getD k rl0).ac))=badR l k:=rfl
   rw [hbad] at HK
   clear hcell c0 c1 hbad
   generalize (l.getD k rl0).pv=P1 at *
   generalize (l.getD k rl0).ac=P2 at *
   by_cases hkm:k=m
   ·subst hkm
    rw [HF.out.2.2 hlt] at HK
    have HK:=Lib.hid HK
    have hx:X=(k:Int):=by rw [HX.out,if_pos hlt]
    go_wp2_with fail
    refine (HK.out _).mono ?_
    rintro e w1 ⟨rfl,hb1⟩
    go_wp2
    go_ret
    exact ⟨by rw [hx]; rfl,HB.out.trans (hb1.mono HB.out.size)⟩
   ·rw [HF.out.2.1 k (by omega)] at HK
    have HK:=Lib.hid HK
    go_wp2_with fail
    refine (HK.out _).mono ?_
    rintro e w1 ⟨rfl,hb1⟩
    have HB1:=Lib.hid (HB.out.trans (hb1.mono HB.out.size))
    clear hb1
    go_wp2
    go_roundw
    case rel => exact ⟨k + 1,by omega,by go_num,HB1⟩
    case measure => simp [intOf]; omega
  ·have hkn:k=n:=by omega
   have hx:X=-1:=by rw [HX.out,if_neg (by omega)]
   go_wp2
   go_ret
   exact ⟨by rw [hx]; rfl,HB.out⟩
theorem contains_rules {w:World} {B n m:Nat} {v:Value} {l:List Rl} (hv:Sl w B 2 v n (rlc l)) (hB:B≤w.heap.size) (hf:FirstBad l n m) :
  Calls Try.prog 34 #[v,.func (.func 35) #[] #[]] w (Says (.bool (decide (m < n))) w):=by
 have HI:=Lib.hid (index_rules hv hB hf)
 obtain ⟨A,cap,rfl,_,_⟩:=hv.form
 obtain ⟨X,hX⟩:∃ X:Int,X=if m < n then (m:Int) else -1:=⟨_,rfl⟩
 rw [← hX] at HI
 have hd:decide (X ≥ 0)=decide (m < n):=by
  by_cases h:m < n
  ·rw [hX,if_pos h]; simp [h]
  ·rw [hX,if_neg h]; simp [h]
 have hd':decide (0≤X)=decide (m < n):=hd
 generalize decide (m < n)=z at *
 clear hX hv hf
 go_enter Try.func34,Try.ntmps34
 go_wp2_with fail
 refine (HI.out).mono ?_
 rintro e w1 ⟨rfl,hb⟩
 go_wp2
 go_ret
 exact ⟨by first | rfl | (simp [hd']; done),hb⟩
end
end Go.Proofs.Ytfekhdgjgjodlaa
