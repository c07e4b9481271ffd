/-
  Words and contracts that a statement's proof rests on (Kit2, VlanH, Base2, Keep, Base3, Turn, MoV, MoD, MoN). No statement is proved here.
-/
import Derived.IntWalk
import Derived.Laws.Bits64
import Derived.Deep.RegionHeld3
import Derived.Lib.Hide
import Derived.Test.YtpcapdpglpgcbaaGreatBase
import Derived.Test.YtpcapdpglpgcbaaGreatMac
import Derived.Test.YtpcapdpglpgcbaaGreatVlanA
set_option linter.unusedVariables false
set_option linter.unusedSimpArgs false
namespace Go.Proofs.YtpcapdpglpgcbaaGreat
section
open Go.RowKit
theorem still0 {P:Program} {f:FuncId} {args:Array Value} {v:Value} (h:∀ W,Calls P f args W fun e w' => e=.returned v∧W=w') (w:World) (n:Nat) :
  Calls P f args (w.drewN n) fun e w' => e=.returned v∧∃ m,w'=w.drewN m:=(h _).mono fun _ _ hh => ⟨hh.1,n,hh.2.symm⟩
theorem still1 {P:Program} {f:FuncId} {args:Array Value} {v:Value} (h:∀ W,Calls P f args W fun e w' => e=.returned v∧W=w') (w:World) (a n:Nat) :
  Calls P f args (w.drewN (a + n)) fun e w' => e=.returned v∧∃ m,w'=w.drewN (a + m):=(h _).mono fun _ _ hh => ⟨hh.1,n,hh.2.symm⟩
end
section
open Go.RowKit
set_option maxHeartbeats 3200000 in
theorem vlan_Check {l:List Vl} {n:Nat} {v:Value} {w:World} {B:Nat} (hok:∀ x ∈ l,x.ok) (hv:Sl w B 3 v n (vlc l)) (hB:B≤w.heap.size) (ports:Int) :
  Calls Tryz.prog 71 #[v,.int .i64 ports] w (Says (.int .i64 (checkN l ports n:Nat)) w):=by
 obtain ⟨A,cap,rfl,hcap,hmx⟩:=hv.form
 have hmx':=hmx
 unfold maxLen at hmx'
 by_cases hp:ports < 2 ∨ 64 < ports
 ·rw [check5 hp]
  clear hv
  rcases hp with hp | hp
  ·go_enter Tryz.func71,Tryz.ntmps71
   go_wp2
   go_ret
   exact ⟨rfl,Below.refl _ _⟩
  ·have hp2:¬ ports < 2:=by omega
   go_enter Tryz.func71,Tryz.ntmps71
   go_wp2
   go_ret
   exact ⟨rfl,Below.refl _ _⟩
 ·have hp1:¬ ports < 2:=by omega
  have hp2:¬ 64 < ports:=by omega
  by_cases h16:16 < n
  ·rw [check8 hp h16]
   have h16':(16:Int) < (n:Int):=by omega
   clear hv hp
   go_enter Tryz.func71,Tryz.ntmps71
   go_wp2
   go_ret
   exact ⟨rfl,Below.refl _ _⟩
  ·have h16':¬ (16:Int) < (n:Int):=by omega
   obtain ⟨C,hC⟩:∃ C,C=checkN l ports n:=⟨_,rfl⟩
   rw [← hC]
   have HC:=Lib.hid hC
   have HP:=Lib.hid hp
   have H16:=Lib.hid h16
   have HV:=Lib.hid hv
   have HOK:=Lib.hid hok
   have hal:=allN_lt ports
   have hAll:=fun W => vlan_All ports W
   obtain ⟨al,hal0⟩:∃ al,al=allN ports:=⟨_,rfl⟩
   rw [← hal0] at hAll hal
   have HALL:=Lib.hid hAll
   have HAL:=Lib.hid hal0
   clear hC hp h16 hv hok hAll hal0
   go_enter Tryz.func71,Tryz.ntmps71
   go_wp2
   go_loopw [5,19] (fun a i wr => ∃ k:Nat,k≤n∧i=.int .i64 k∧a=.int .i64 (aheadN l k)∧Hid (∀ i,i < k→wrongAt l ports i=0)∧Hid (Below w.heap.size w wr)) (fun _ i _ => n - (intOf i).toNat)
   case atStart => exact ⟨0,by omega,rfl,rfl,fun i hi => by omega,Below.refl _ _⟩
   case round =>
    obtain ⟨k,hk,rfl,rfl,HF,HBW⟩:=hrel
    rename_i wr _
    by_cases hlt:k < n
    ·obtain ⟨b,off,cap',hvv,_,_,hb,hlen,hcell⟩:=HV.out.vlAt (show 0 < n by omega)
     injection hvv with e1 _ e2
     subst e1 e2
     obtain ⟨c0,c1,c2⟩:=hcell k hlt
     have hbw:=(bcell HBW.out).1
     have e0:=(hbw b (off + k * 3) (by omega)).trans c0
     have e1:=(hbw b (off + k * 3 + 1) (by omega)).trans c1
     have e2:=(hbw b (off + k * 3 + 2) (by omega)).trans c2
     have hxok:=vl_ok HOK.out k
     have hnext:Hid (aheadN l (k + 1)=(l.getD k vl0).vid):=by show _=_; unfold aheadN; rw [if_neg (by omega)]; rfl
     obtain ⟨x,hx⟩:∃ x,x=l.getD k vl0:=⟨_,rfl⟩
     obtain ⟨ah,hah⟩:∃ ah,ah=aheadN l k:=⟨_,rfl⟩
     have W6a:=Lib.hid (@wrong6a l ports k)
     have W6b:=Lib.hid (@wrong6b l ports k)
     have W5:=Lib.hid (@wrong5 l ports k)
     have W1:=Lib.hid (@wrong1 l ports k)
     have W0:=Lib.hid (@wrong0 l ports k)
     rw [← hx,← hah] at W6b W5 W1 W0
     rw [← hx] at W6a e0 e1 e2 hxok hnext
     rw [← HAL.out] at W5 W1 W0
     rw [← hah]
     have hV:=fun W => vlan_rightVid x.vid W
     obtain ⟨vb,hvb⟩:∃ vb,vb=vidB x.vid:=⟨_,rfl⟩
     rw [← hvb] at hV W6a W6b W5 W1 W0
     have HVV:=Lib.hid hV
     have hq1:=u64_andNot_nat x.mem al hxok.2.1 hal
     have hq2:=u64_andNot_nat x.unt x.mem hxok.2.2 hxok.2.1
     have hn1:=andNot_within hxok.2.1 hal
     have hn2:=andNot_within hxok.2.2 hxok.2.1
     generalize x.mem &&& (18446744073709551615 - al)=m1 at *
     generalize x.unt &&& (18446744073709551615 - x.mem)=m2 at *
     have hsz:=HBW.out.size
     clear hbw c0 c1 c2 hx hah hvb hV hcell hlen hxok HV HOK HAL
     cases vb
     ·have HW:Hid (C=6):=by show C=6; rw [HC.out]; exact checkAt HP.out H16.out HF.out hlt (W6a.out rfl) (by omega)
      clear W6a W6b W5 W1 W0 HF hn1 hn2 hq1 hq2
      go_wp2_with fail
      refine (HVV.out _).mono ?_
      rintro e w1 ⟨rfl,rfl⟩
      go_wp2
      go_ret
      exact ⟨ret_i64 (by rw [HW.out]; rfl),HBW.out.alloc hsz _⟩
     ·by_cases hle:x.vid≤ah
      ·have HW:Hid (C=6):=by show C=6; rw [HC.out]; exact checkAt HP.out H16.out HF.out hlt (W6b.out rfl hle) (by omega)
       clear W6a W6b W5 W1 W0 HF hn1 hn2 hq1 hq2
       go_wp2_with fail
       refine (HVV.out _).mono ?_
       rintro e w1 ⟨rfl,rfl⟩
       go_wp2
       go_ret
       exact ⟨ret_i64 (by rw [HW.out]; rfl),HBW.out.alloc hsz _⟩
      ·cases hw1:withinB x.mem al
       ·have HW:Hid (C=5):=by show C=5; rw [HC.out]; exact checkAt HP.out H16.out HF.out hlt (W5.out rfl hle hw1) (by omega)
        rw [hw1] at hn1
        clear W6a W6b W5 W1 W0 HF hn2 hq2 hw1
        go_wp2_with fail
        refine (HVV.out _).mono ?_
        rintro e w1 ⟨rfl,rfl⟩
        go_wp2_with fail
        go_quiet ((go_at_call 86; exact still0 HALL.out _ _))
        go_wp2
        go_ret
        exact ⟨ret_i64 (by rw [HW.out]; rfl),below_drewN (HBW.out.alloc hsz _) _⟩
       ·cases hw2:withinB x.unt x.mem
        ·have HW:Hid (C=1):=by show C=1; rw [HC.out]; exact checkAt HP.out H16.out HF.out hlt (W1.out rfl hle hw1 hw2) (by omega)
         rw [hw1] at hn1
         rw [hw2] at hn2
         clear W6a W6b W5 W1 W0 HF hw1 hw2
         go_wp2_with fail
         refine (HVV.out _).mono ?_
         rintro e w1 ⟨rfl,rfl⟩
         go_wp2_with fail
         go_quiet ((go_at_call 86; exact still0 HALL.out _ _))
         go_wp2
         go_ret
         exact ⟨ret_i64 (by rw [HW.out]; rfl),below_drewN (HBW.out.alloc hsz _) _⟩
        ·have HF2:=Lib.hid (all_step HF.out (W0.out rfl hle hw1 hw2))
         rw [hw1] at hn1
         rw [hw2] at hn2
         clear W6a W6b W5 W1 W0 HF hw1 hw2
         go_wp2_with fail
         refine (HVV.out _).mono ?_
         rintro e w1 ⟨rfl,rfl⟩
         go_wp2_with fail
         go_quiet ((go_at_call 86; exact still0 HALL.out _ _))
         go_wp2
         go_roundw
         case rel => exact ⟨k + 1,by omega,by go_num,by rw [hnext.out],HF2.out,below_drewN (HBW.out.alloc hsz _) _⟩
         case measure => simp [intOf]; omega
    ·have:k=n:=by omega
     subst this
     go_wp2
     go_ret
     exact ⟨ret_i64 (by rw [HC.out,check0 HP.out H16.out HF.out]; rfl),HBW.out⟩
end
section
open Go.RowKit
def mkC (z:Value) (size M:Nat):Array Value:=madeCells z.cells (M * size)
theorem mkC_size (z:Value) (size M:Nat):(mkC z size M).size=M * size:=size_madeCells _ _
end
section
open Go.RowKit
theorem kp2 {w w':World} {b o0 o1:Nat} {v0 v1:Value} (h:w.cell? ⟨b,o0,none⟩=some v0∧w.cell? ⟨b,o1,none⟩=some v1) (hk:∀ p:Addr,p.block=b→w'.cell? p=w.cell? p) :
  w'.cell? ⟨b,o0,none⟩=some v0∧w'.cell? ⟨b,o1,none⟩=some v1 :=
 ⟨(hk _ rfl).trans h.1,(hk _ rfl).trans h.2⟩
theorem kp5 {w w':World} {b o0 o1 o2 o3 o4:Nat} {v0 v1 v2 v3 v4:Value} (h:w.cell? ⟨b,o0,none⟩=some v0∧w.cell? ⟨b,o1,none⟩=some v1∧w.cell? ⟨b,o2,none⟩=some v2∧w.cell? ⟨b,o3,none⟩=some v3∧w.cell? ⟨b,o4,none⟩=some v4) (hk:∀ p:Addr,p.block=b→w'.cell? p=w.cell? p) :
  w'.cell? ⟨b,o0,none⟩=some v0∧w'.cell? ⟨b,o1,none⟩=some v1∧w'.cell? ⟨b,o2,none⟩=some v2∧w'.cell? ⟨b,o3,none⟩=some v3∧w'.cell? ⟨b,o4,none⟩=some v4 :=
 ⟨(hk _ rfl).trans h.1,(hk _ rfl).trans h.2.1,(hk _ rfl).trans h.2.2.1,(hk _ rfl).trans h.2.2.2.1,(hk _ rfl).trans h.2.2.2.2⟩
theorem kp6 {w w':World} {b o0 o1 o2 o3 o4 o5:Nat} {v0 v1 v2 v3 v4 v5:Value} (h:w.cell? ⟨b,o0,none⟩=some v0∧w.cell? ⟨b,o1,none⟩=some v1∧w.cell? ⟨b,o2,none⟩=some v2∧w.cell? ⟨b,o3,none⟩=some v3∧w.cell? ⟨b,o4,none⟩=some v4∧w.cell? ⟨b,o5,none⟩=some v5) (hk:∀ p:Addr,p.block=b→w'.cell? p=w.cell? p) :
  w'.cell? ⟨b,o0,none⟩=some v0∧w'.cell? ⟨b,o1,none⟩=some v1∧w'.cell? ⟨b,o2,none⟩=some v2∧w'.cell? ⟨b,o3,none⟩=some v3∧w'.cell? ⟨b,o4,none⟩=some v4∧w'.cell? ⟨b,o5,none⟩=some v5 :=
 ⟨(hk _ rfl).trans h.1,(hk _ rfl).trans h.2.1,(hk _ rfl).trans h.2.2.1,(hk _ rfl).trans h.2.2.2.1,(hk _ rfl).trans h.2.2.2.2.1,(hk _ rfl).trans h.2.2.2.2.2⟩
end
section
open Go.RowKit
theorem run_mkFull {P:Program} (w:World) {t e:TypeId} {z:Value} {size bytes:Nat} (hT:ST P t e z size bytes) (k:Nat) (hk:bytes * k≤281474976710656) :
  (Instr.makeSlice t (.int .i64 (k:Int)) (.int .i64 (k:Int))).run P w=.ok (.slice (some ⟨w.heap.size,0,none⟩) k k) (w.alloc (.cells (mkC z size k) e)):=by
 obtain ⟨i,ht,hi,hz,hsz,hby,hzs,hs0,hb0⟩:=hT
 have h1:k≤bytes * k:=Nat.le_mul_of_pos_left _ hb0
 have h2:(i.bytes:Int) * (k:Int)≤281474976710656:=by
  have h3:((bytes * k:Nat):Int)≤281474976710656:=by omega
  rw [hby]
  rwa [Int.natCast_mul] at h3
 have:=run_make (P:=P) w t e i z ht hi hz .i64 .i64 (k:Int) (k:Int) (by omega) (Int.le_refl _) h2 (by omega)
 rw [hsz] at this
 exact this
theorem Sl.set {w:World} {B n b off cap i:Nat} {xs:List Value} (h:Sl w B 1 (.slice (some ⟨b,off,none⟩) n cap) n xs) (hi:i < n) (u:Value):Sl (w.setCell ⟨b,off + i,none⟩ u) B 1 (.slice (some ⟨b,off,none⟩) n cap) n (xs.set i u):=by
 obtain ⟨hl,A',cap',hv,h1,h2,h3⟩:=h
 injection hv with e1 _ e2
 subst e1 e2
 refine ⟨by rw [List.length_set]; exact hl,_,cap,rfl,h1,h2,fun h0 => ?_⟩
 obtain ⟨b',off',hA,hB,hc⟩:=h3 h0
 injection hA with hA
 injection hA with e3 e4
 subst e3 e4
 refine ⟨b,off,rfl,hB,fun j hj => ?_⟩
 by_cases hij:i=j
 ·subst hij
  have hx:=hc i hj
  have hsome:xs[i]?=some (xs[i]'(by omega)):=List.getElem?_eq_getElem _
  rw [World.cell?_setCell_same _ _ _ (hx.trans hsome),List.getElem?_set_self (by omega)]
 ·rw [World.cell?_setCell_other _ _ _ _ (by simp),hc j hj,List.getElem?_set_ne hij]
end
section
open Go.RowKit
def mixS (d c x:Int):Int:=IntKind.u64.wrap (bits .xor .u64 x (x / d) * c)
def mixZ (n:Int):Int:=mixS 134217728 10723151780598845931 (mixS 1073741824 13787848793156543929 (IntKind.u64.wrap (n + 11400714819323198485)))
def mixI (n:Int):Int:=bits .xor .u64 (mixZ n) (mixZ n / 2147483648)
theorem u64_wrap_bd (y:Int):0≤IntKind.u64.wrap y∧IntKind.u64.wrap y < 18446744073709551616:=by
 rw [IntKind.wrap_u64]; omega
theorem u64_tdiv (y d:Int) (hd:0 < d):IntKind.u64.wrap ((IntKind.u64.wrap y).tdiv d)=IntKind.u64.wrap y / d:=by
 obtain ⟨h0,h1⟩:=u64_wrap_bd y
 generalize IntKind.u64.wrap y=x at *
 rw [Int.tdiv_eq_ediv_of_nonneg h0,IntKind.wrap_u64]
 have h2:0≤x / d:=Int.ediv_nonneg h0 (by omega)
 have h3:x / d≤x:=Int.ediv_le_self _ h0
 omega
theorem mixI_bd (n:Int):0≤mixI n∧mixI n < 18446744073709551616:=by
 obtain ⟨h0,h1⟩:=u64_wrap_bd (bits .xor .u64 (mixS 1073741824 13787848793156543929 (IntKind.u64.wrap (n + 11400714819323198485))) (mixS 1073741824 13787848793156543929 (IntKind.u64.wrap (n + 11400714819323198485)) / 134217728) * 10723151780598845931)
 change 0≤mixZ n at h0
 change mixZ n < _ at h1
 unfold mixI
 generalize mixZ n=x at *
 obtain ⟨X,rfl⟩:=Int.eq_ofNat_of_zero_le h0
 have hX:X < 18446744073709551616:=by omega
 have:=xorShift_u64 X 2147483648 hX
 rw [show ((2147483648:Nat):Int)=2147483648 from rfl] at this
 rw [this]
 have h2:X ^^^ X / 2147483648 < 2 ^ 64:=Nat.xor_lt_two_pow (by omega) (by omega)
 omega
theorem turn_Mix (n:Int) (hn:0≤n∧n < 18446744073709551616) (w:World) :
  Calls Tryz.prog 124 #[.int .u64 n] w fun e w' => e=.returned (.int .u64 (mixI n))∧w=w':=by
 clear hn
 go_enter Tryz.func124,Tryz.ntmps124
 go_wp2
 go_ret
 exact ⟨rfl,rfl⟩
theorem ref7_Mix (n:Int) (hn:0≤n∧n < 18446744073709551616) (w:World) :
  Calls Tryz.prog 130 #[.int .u64 n] w fun e w' => e=.returned (.int .u64 (mixI n))∧w=w':=by
 clear hn
 go_enter Tryz.func130,Tryz.ntmps130
 go_wp2
 go_ret
 refine ⟨ret_u64 ?_,rfl⟩
 simp only [u64_tdiv _ 1073741824 (by decide),u64_tdiv _ 134217728 (by decide),u64_tdiv _ 2147483648 (by decide)]
 rfl
end
section
open Go.RowKit
theorem Sl.litN (w:World) (cs:Array Value) (e:TypeId) (n size:Nat) (hs:cs.size=n * size) (hm:n≤maxLen):Sl (w.alloc (.cells cs e)) (w.heap.size + 1) size (.slice (some ⟨w.heap.size,0,none⟩) n n) n cs.toList:=by
 refine ⟨by simpa using hs,_,n,rfl,Nat.le_refl _,hm,fun _ => ⟨w.heap.size,0,rfl,by omega,fun j hj => ?_⟩⟩
 simp [go_sem]
theorem keep3 {w w':World} {b o1 o2 o3:Nat} {v1 v2 v3:Value} (h:w.cell? ⟨b,o1,none⟩=some v1∧w.cell? ⟨b,o2,none⟩=some v2∧w.cell? ⟨b,o3,none⟩=some v3) (hk:∀ p:Addr,p.block=b→w'.cell? p=w.cell? p) :
  w'.cell? ⟨b,o1,none⟩=some v1∧w'.cell? ⟨b,o2,none⟩=some v2∧w'.cell? ⟨b,o3,none⟩=some v3 :=
 ⟨(hk _ rfl).trans h.1,(hk _ rfl).trans h.2.1,(hk _ rfl).trans h.2.2⟩
theorem stVlans:ST Tryz.prog 36 80 (.agg #[.int .i64 0,.int .u64 0,.int .u64 0]) 3 24:=ST.mk Tryz.underlying36 (by kernel_rfl) rfl (by omega) (by omega)
theorem stVls3:ST Tryz.prog 23 73 (.agg #[.int .i64 0,.int .u64 0,.int .u64 0]) 3 24:=ST.mk Tryz.underlying23 (by kernel_rfl) rfl (by omega) (by omega)
set_option maxHeartbeats 1600000 in
theorem law3_To {l:List Vl} {n:Nat} {v:Value} {w:World} {B:Nat} (hn:n≤20) (hv:Sl w B 3 v n (vlc l)) (hB:B≤w.heap.size) :
  Calls Tryz.prog 25 #[v] w fun e w' => ∃ u,e=.returned u∧w'.ownsRow w.heap.size 80 3 u n (vlc l)∧Below w.heap.size w w':=by
 by_cases hn0:0 < n
 ·obtain ⟨b,off,cap,rfl,hcap,hmx,hb,hlen,hcell⟩:=hv.vlAt hn0
  unfold maxLen at hmx
  have HC:=Lib.hid hcell
  have HL:=Lib.hid hlen
  clear hv hcell hlen
  go_enter Tryz.func25,Tryz.ntmps25
  go_wp2
  go_loopw [3,4] (fun o i wr => ∃ k:Nat,k≤n∧i=.int .i64 k∧Hid (wr.ownsRow w.heap.size 80 3 o k (vlc (l.take k)))∧Hid (Below w.heap.size w wr)) (fun _ i _ => n - (intOf i).toNat)
  case atStart => exact ⟨0,by omega,rfl,⟨by simp [vlc],.inl ⟨rfl,rfl⟩⟩,Below.refl _ _⟩
  case round =>
   rename_i o _ _
   obtain ⟨k,hk,rfl,HO,HBW⟩:=hrel
   rename_i wr _
   by_cases hlt:k < n
   ·obtain ⟨c0,c1,c2⟩:=HC.out k hlt
    have hbw:=(bcell HBW.out).1
    have e0:=(hbw b (off + k * 3) (by omega)).trans c0
    have e1:=(hbw b (off + k * 3 + 1) (by omega)).trans c1
    have e2:=(hbw b (off + k * 3 + 2) (by omega)).trans c2
    obtain ⟨x,hx⟩:∃ x,x=l.getD k vl0:=⟨_,rfl⟩
    rw [← hx] at e0 e1 e2
    have HX:Hid (vlc (l.take k) ++ [.int .i64 x.vid,.int .u64 (x.mem:Nat),.int .u64 (x.unt:Nat)]=vlc (l.take (k + 1))):=by
     have hkl:k < l.length:=by have:=HL.out; omega
     show _=_
     rw [List.take_succ_eq_append_getElem hkl,vlc_append,hx]
     simp [vlc,Vl.cells,List.getD_eq_getElem?_getD,List.getElem?_eq_getElem hkl]
    have g0:(0:Int)≤(k:Int):=Int.natCast_nonneg _
    have g1:(k:Int) < (n:Int):=by omega
    have hzw:=HBW.out.size
    clear hbw c0 c1 c2 hx HC
    go_wp2
    have hbr:b < wr.heap.size:=by omega
    have hbw:b < w.heap.size:=by omega
    go_region_held3 (fun w' => w'.cell? ⟨b,off + k * 3,none⟩=some (.int .i64 x.vid)∧w'.cell? ⟨b,off + k * 3 + 1,none⟩=some (.int .u64 (x.mem:Nat))∧w'.cell? ⟨b,off + k * 3 + 2,none⟩=some (.int .u64 (x.unt:Nat)))
     (first | (with_reducible exact keep3 (by assumption) (fun p hp => hbel2.cell (by rw [hp]; exact hbw))) | (with_reducible exact keep3 (by assumption) (fun p hp => World.cell?_alloc_lt _ _ _ (by rw [hp]; exact hbr))) | go_keep)
     ((refine step_app _ (by rfl) stVlans _ _ (by rfl) w.heap.size u3 k _ (by rfl) ((HO.out.alloc _).drew) (wr.heap.size + 1) _ 1 [.int .i64 x.vid,.int .u64 (x.mem:Nat),.int .u64 (x.unt:Nat)] (by rfl) ((Sl.litN wr #[.int .i64 x.vid,.int .u64 (x.mem:Nat),.int .u64 (x.unt:Nat)] _ 1 3 rfl (by decide)).drew) (by simp [Value.oneCell']) (by omega) (by simp; omega) ?_; intro v2 w2 hown2 hgr2 hat2 hbel2))
    all_goals
     rw [HX.out] at hown2
     have HO2:=Lib.hid hown2
     have HB2:=Lib.hid ((HBW.out.alloc hzw (.cells #[.int .i64 x.vid,.int .u64 (x.mem:Nat),.int .u64 (x.unt:Nat)] 80)).drew.trans hbel2)
     clear hown2 hgr2 hat2 hbel2
     go_wp2
     go_roundw
     case rel => exact ⟨k + 1,by omega,by go_num,HO2.out,HB2.out⟩
     case measure => simp [intOf]; omega
   ·have:k=n:=by omega
    subst this
    go_wp2
    go_ret
    refine ⟨_,rfl,?_,HBW.out⟩
    have:=HO.out
    rw [List.take_of_length_le (by have:=HL.out; omega)] at this
    exact this
 ·obtain rfl:n=0:=by omega
  have hl:l=[]:=List.eq_nil_of_length_eq_zero hv.vlLen
  subst hl
  obtain ⟨A,cap,rfl,hcap,hmx⟩:=hv.form
  clear hv hn0
  go_enter Tryz.func25,Tryz.ntmps25
  go_wp2
  go_loopw [3,4] (fun o i wr => i=.int .i64 0∧o=.slice none 0 0∧wr=w) (fun _ _ _ => 0)
  case atStart => exact ⟨rfl,rfl,rfl⟩
  case round =>
   obtain ⟨rfl,rfl,rfl⟩:=hrel
   go_wp2
   go_ret
   exact ⟨_,rfl,World.ownsRow_nil _ _ _ _,Below.refl _ _⟩
end
section
open Go.RowKit
set_option maxRecDepth 20000 in
set_option maxHeartbeats 3200000 in
theorem clone_vlans {w:World} {B n:Nat} {v:Value} {xs:List Value} (hn:n≤1000000) (hv:Sl w B 3 v n xs) (hone:∀ u ∈ xs,u.oneCell'=true) (hB:B≤w.heap.size) :
  Calls Tryz.prog 23 #[v] w fun e w' => ∃ u,e=.returned u∧w'.ownsRow w.heap.size 80 3 u n xs∧Below w.heap.size w w':=by
 have HS:=Lib.hid hv
 obtain ⟨A,cap,rfl,h1,h2⟩:=hv.form
 have HONE:=Lib.hid hone
 cases A with
 | none =>
  have hn0:n=0:=by
   rcases Nat.eq_zero_or_pos n with h | h
   ·exact h
   ·obtain ⟨b,off,c,e,_⟩:=hv.at_ h
    cases e
  subst hn0
  have hx:xs=[]:=by have:=hv.len; simpa using this
  subst hx
  clear hv h1 h2 HS HONE hone
  have hnil:=fun (W:World) => Lib.run_eql_slice_nil (P:=Tryz.prog) W 36 80 none 0 cap 0 0 Tryz.underlying36
  go_enter Tryz.func23,Tryz.ntmps23
  go_wp2_with fail
  go_ret
  exact ⟨_,rfl,⟨by simp,.inl (by simp)⟩,Below.refl _ _⟩
 | some a =>
  clear hv h2 hone
  have hnil:=fun (W:World) => Lib.run_eql_slice_nil (P:=Tryz.prog) W 36 80 (some a) n cap 0 0 Tryz.underlying36
  go_enter Tryz.func23,Tryz.ntmps23
  go_wp2_with (first
   | (at_builtin; refine wpList_apv _ rfl stVlans _ _ rfl w.heap.size (.slice (some ⟨w.heap.size,0,none⟩) 0 0) 0 [] rfl ⟨by simp,.inr ⟨w.heap.size,0,#[],rfl,Nat.le_refl _,heap_alloc_new w _,Nat.le_refl _,by simp [maxLen],by simp,by simp⟩⟩ B _ n xs rfl (HS.out.below (by (repeat' (first | (with_reducible exact Below.refl _ _) | (with_reducible refine Below.alloc ?_ ?_ _) | go_size)))) HONE.out (by omega) (by go_size) ?_; intro A2 c2 w9 hown2 hgr2 hat2 hbel2; clear hgr2 hat2))
  have HO0:w9.ownsRow w.heap.size 80 3 (.slice A2 n c2) n xs:=by simpa using hown2
  have HO:=Lib.hid HO0
  clear HO0
  have HB9:Hid (Below w.heap.size w w9):=Below.trans ((Below.refl _ _).alloc (Nat.le_refl _) _) hbel2
  clear hown2 hbel2
  go_wp2
  go_ret
  exact ⟨_,by first | rfl | (simp; done),HO.out,HB9.out⟩
end
section
open Go.RowKit
def opV (kd po tt vi st kv:Int) (km:Int) (me un:Int) (nw li:Int) (sh bu id:Int):Value:=.agg #[.int .i64 kd,.int .i64 po,.int .i64 tt,.int .i64 vi,.int .i64 st,.int .i64 kv,.int .u64 km,.int .u64 me,.int .u64 un,.int .u32 nw,.int .u32 li,.int .i64 sh,.int .i64 bu,.int .i64 id]
end
end Go.Proofs.YtpcapdpglpgcbaaGreat
