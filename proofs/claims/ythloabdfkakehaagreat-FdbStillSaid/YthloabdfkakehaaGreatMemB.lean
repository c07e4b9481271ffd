/-
  Words and contracts that a statement's proof rests on (MemB). No statement is proved here.
-/
import Derived.WalkKit
import Derived.Test.YthloabdfkakehaaGreatKeyR
set_option linter.unusedVariables false
set_option linter.unusedSimpArgs false
namespace Go.Proofs.YthloabdfkakehaaGreat
open Go.RowKit
theorem mem_Cells {w:World} {lo b:Nat} {s:MemS} (hm:MemAt w 112 lo b s) :
  Calls Tryz.prog 87 #[.pointer (some ⟨b,0,none⟩)] w fun e w' => e=.returned (.int .i64 (s.C:Int))∧w=w':=by
 obtain ⟨bc,bl,hm⟩:=hm
 obtain ⟨h0,h1,h2,h3⟩:=hm.at_
 go_enter Tryz.func87,Tryz.ntmps87
 go_wp2
 go_ret
 exact ⟨rfl,rfl⟩
theorem mem_Locks {w:World} {lo b:Nat} {s:MemS} (hm:MemAt w 112 lo b s) :
  Calls Tryz.prog 88 #[.pointer (some ⟨b,0,none⟩)] w fun e w' => e=.returned (.int .i64 (s.L:Int))∧w=w':=by
 obtain ⟨bc,bl,hm⟩:=hm
 obtain ⟨h0,h1,h2,h3⟩:=hm.at_
 go_enter Tryz.func88,Tryz.ntmps88
 go_wp2
 go_ret
 exact ⟨rfl,rfl⟩
theorem mem_Time {w:World} {lo b:Nat} {s:MemS} (hm:MemAt w 112 lo b s) :
  Calls Tryz.prog 36 #[.pointer (some ⟨b,0,none⟩)] w fun e w' => e=.returned (.int .i64 s.t)∧w=w':=by
 obtain ⟨bc,bl,hm⟩:=hm
 obtain ⟨h0,h1,h2,h3⟩:=hm.at_
 go_enter Tryz.func36,Tryz.ntmps36
 go_wp2
 go_ret
 exact ⟨rfl,rfl⟩
theorem mem_hasCell (i:Int) {w:World} {lo b:Nat} {s:MemS} (hm:MemAt w 112 lo b s) :
  Calls Tryz.prog 126 #[.pointer (some ⟨b,0,none⟩),.int .i64 i] w fun e w' => e=.returned (.bool (hasC s i))∧w=w':=by
 have HC:=Lib.hid (mem_Cells hm)
 obtain ⟨bc,bl,hm⟩:=hm
 obtain ⟨h0,h1,h2,h3⟩:=hm.at_
 have hb:=hm.cb
 unfold hasC
 clear hm
 by_cases hi:0≤i
 ·have hd:decide (0≤i)=true:=by simpa using hi
  go_enter Tryz.func126,Tryz.ntmps126
  go_wp2_with fail
  refine (HC.out).mono ?_
  rintro e w1 ⟨rfl,rfl⟩
  go_wp2
  go_ret
  exact ⟨ret_bool (by simp [hi]),rfl⟩
 ·have hd:decide (0≤i)=false:=by simpa using hi
  go_enter Tryz.func126,Tryz.ntmps126
  go_wp2
  go_ret
  exact ⟨ret_bool (by simp),rfl⟩
theorem mem_hasLock (i:Int) {w:World} {lo b:Nat} {s:MemS} (hm:MemAt w 112 lo b s) :
  Calls Tryz.prog 54 #[.pointer (some ⟨b,0,none⟩),.int .i64 i] w fun e w' => e=.returned (.bool (hasL s i))∧w=w':=by
 have HC:=Lib.hid (mem_Locks hm)
 obtain ⟨bc,bl,hm⟩:=hm
 obtain ⟨h0,h1,h2,h3⟩:=hm.at_
 have hb:=hm.lb
 unfold hasL
 clear hm
 by_cases hi:0≤i
 ·have hd:decide (0≤i)=true:=by simpa using hi
  go_enter Tryz.func54,Tryz.ntmps54
  go_wp2_with fail
  refine (HC.out).mono ?_
  rintro e w1 ⟨rfl,rfl⟩
  go_wp2
  go_ret
  exact ⟨ret_bool (by simp [hi]),rfl⟩
 ·have hd:decide (0≤i)=false:=by simpa using hi
  go_enter Tryz.func54,Tryz.ntmps54
  go_wp2
  go_ret
  exact ⟨ret_bool (by simp),rfl⟩
theorem mem_Peek (i:Int) {w:World} {lo b:Nat} {s:MemS} (hm:MemAt w 112 lo b s) :
  Calls Tryz.prog 95 #[.pointer (some ⟨b,0,none⟩),.int .i64 i] w fun e w' => e=.returned (.int .u64 (peekS s i))∧w=w':=by
 have HH:=mem_hasCell i hm
 obtain ⟨bc,bl,hm⟩:=hm
 obtain ⟨h0,h1,h2,h3⟩:=hm.at_
 unfold peekS
 cases hc:hasC s i
 ·rw [hc] at HH
  rw [if_neg (by simp)]
  have HH:=Lib.hid HH
  clear hc hm
  go_enter Tryz.func95,Tryz.ntmps95
  go_wp2_with fail
  refine (HH.out).mono ?_
  rintro e w1 ⟨rfl,rfl⟩
  go_wp2
  go_ret
  exact ⟨rfl,rfl⟩
 ·rw [hc] at HH
  rw [if_pos rfl]
  have HH:=Lib.hid HH
  obtain ⟨hi0,hi1⟩:=hasC_iff.1 hc
  obtain ⟨k,rfl⟩:=Int.eq_ofNat_of_zero_le hi0
  rw [Int.toNat_natCast]
  obtain ⟨hk1,hk2⟩:=hm.c_at (k:=k) (by omega)
  have hcb:=hm.cb
  have hlb:=hm.lb
  clear hc hm
  go_enter Tryz.func95,Tryz.ntmps95
  go_wp2_with fail
  refine (HH.out).mono ?_
  rintro e w1 ⟨rfl,rfl⟩
  go_wp2
  go_ret
  exact ⟨rfl,rfl⟩
theorem mem_Holder (i:Int) {w:World} {lo b:Nat} {s:MemS} (hm:MemAt w 112 lo b s) :
  Calls Tryz.prog 18 #[.pointer (some ⟨b,0,none⟩),.int .i64 i] w fun e w' => e=.returned (.int .i64 (holdS s i))∧w=w':=by
 have HH:=mem_hasLock i hm
 obtain ⟨bc,bl,hm⟩:=hm
 obtain ⟨h0,h1,h2,h3⟩:=hm.at_
 unfold holdS
 cases hc:hasL s i
 ·rw [hc] at HH
  rw [if_neg (by simp)]
  have HH:=Lib.hid HH
  clear hc hm
  go_enter Tryz.func18,Tryz.ntmps18
  go_wp2_with fail
  refine (HH.out).mono ?_
  rintro e w1 ⟨rfl,rfl⟩
  go_wp2
  go_ret
  exact ⟨rfl,rfl⟩
 ·rw [hc] at HH
  rw [if_pos rfl]
  have HH:=Lib.hid HH
  obtain ⟨hi0,hi1⟩:=hasL_iff.1 hc
  obtain ⟨k,rfl⟩:=Int.eq_ofNat_of_zero_le hi0
  rw [Int.toNat_natCast]
  obtain ⟨hk1,hk2⟩:=hm.l_at (k:=k) (by omega)
  have hcb:=hm.cb
  have hlb:=hm.lb
  clear hc hm
  go_enter Tryz.func18,Tryz.ntmps18
  go_wp2_with fail
  refine (HH.out).mono ?_
  rintro e w1 ⟨rfl,rfl⟩
  go_wp2
  go_ret
  exact ⟨rfl,rfl⟩
set_option maxHeartbeats 800000 in
theorem mem_Load (i:Int) {w:World} {lo b:Nat} {s:MemS} (hm:MemAt w 112 lo b s) (ht:s.t≤4611686018427387904) :
  Calls Tryz.prog 103 #[.pointer (some ⟨b,0,none⟩),.int .i64 i] w (MemDid 112 lo b (loadS s i) (.int .u64 (peekS s i)) w):=by
 have HH:=mem_hasCell i hm
 obtain ⟨bc,bl,hm⟩:=hm
 obtain ⟨h0,h1,h2,h3⟩:=hm.at_
 have HM:=Lib.hid hm
 unfold peekS loadS
 cases hc:hasC s i
 ·rw [hc] at HH
  rw [if_neg (by simp),if_neg (by simp)]
  have HH:=Lib.hid HH
  clear hc hm
  go_enter Tryz.func103,Tryz.ntmps103
  go_wp2_with fail
  refine (HH.out).mono ?_
  rintro e w1 ⟨rfl,rfl⟩
  go_wp2
  go_ret
  exact ⟨rfl,⟨bc,bl,HM.out⟩,Touch.refl _ _⟩
 ·rw [hc] at HH
  rw [if_pos rfl,if_pos rfl]
  have HH:=Lib.hid HH
  obtain ⟨hi0,hi1⟩:=hasC_iff.1 hc
  obtain ⟨k,rfl⟩:=Int.eq_ofNat_of_zero_le hi0
  rw [Int.toNat_natCast]
  have hk:k < s.C:=by omega
  have HT:=Lib.hid hm.tick
  obtain ⟨hk1,hk2⟩:=hm.tick.c_at (k:=k) hk
  obtain ⟨g0,g1,g2,g3⟩:=hm.tick.at_
  have hb1:=hm.b1
  have hb2:=hm.b2
  have hcb:=hm.cb
  have ht0:=hm.t0
  change World.cell? _ ⟨b,0,none⟩=some (.slice (some ⟨bc,0,none⟩) s.C s.C) at g0
  change World.cell? _ ⟨bc,k,none⟩=some (.int .u64 (s.c k)) at hk1
  clear hc hm g1 g2 g3 hk2
  go_enter Tryz.func103,Tryz.ntmps103
  go_wp2_with fail
  refine (HH.out).mono ?_
  rintro e w1 ⟨rfl,rfl⟩
  go_wp2
  go_ret
  exact ⟨rfl,⟨bc,bl,HT.out⟩,(Touch.refl _ _).setCell hb1 hb2 _⟩
set_option maxHeartbeats 800000 in
theorem mem_Store (i v:Int) {w:World} {lo b:Nat} {s:MemS} (hm:MemAt w 112 lo b s) (ht:s.t≤4611686018427387904) :
  Calls Tryz.prog 108 #[.pointer (some ⟨b,0,none⟩),.int .i64 i,.int .u64 v] w (MemDid 112 lo b (storeS s i v) (.tuple #[]) w):=by
 have HH:=mem_hasCell i hm
 obtain ⟨bc,bl,hm⟩:=hm
 obtain ⟨h0,h1,h2,h3⟩:=hm.at_
 have HM:=Lib.hid hm
 unfold storeS
 cases hc:hasC s i
 ·rw [hc] at HH
  rw [if_neg (by simp)]
  have HH:=Lib.hid HH
  clear hc hm
  go_enter Tryz.func108,Tryz.ntmps108
  go_wp2_with fail
  refine (HH.out).mono ?_
  rintro e w1 ⟨rfl,rfl⟩
  go_wp2
  go_end0
  exact ⟨rfl,⟨bc,bl,HM.out⟩,Touch.refl _ _⟩
 ·rw [hc] at HH
  rw [if_pos rfl]
  have HH:=Lib.hid HH
  obtain ⟨hi0,hi1⟩:=hasC_iff.1 hc
  obtain ⟨k,rfl⟩:=Int.eq_ofNat_of_zero_le hi0
  rw [Int.toNat_natCast]
  have hk:k < s.C:=by omega
  have HT:=Lib.hid (hm.tick.putC k v)
  obtain ⟨hk1,hk2⟩:=hm.tick.c_at (k:=k) hk
  obtain ⟨g0,g1,g2,g3⟩:=hm.tick.at_
  have hb1:=hm.b1
  have hb2:=hm.b2
  have hc1:=hm.c1
  have hc2:=hm.c2
  have hcb:=hm.cb
  have ht0:=hm.t0
  change World.cell? _ ⟨b,0,none⟩=some (.slice (some ⟨bc,0,none⟩) s.C s.C) at g0
  change World.cell? _ ⟨bc,k,none⟩=some (.int .u64 (s.c k)) at hk1
  clear hc hm g1 g2 g3
  go_enter Tryz.func108,Tryz.ntmps108
  go_wp2_with fail
  refine (HH.out).mono ?_
  rintro e w1 ⟨rfl,rfl⟩
  go_wp2
  go_end0
  exact ⟨rfl,⟨bc,bl,HT.out⟩,((Touch.refl _ _).setCell hb1 hb2 _).setCell hc1 hc2 _⟩
def handB (s:MemS) (l fr:Int):Bool:=hasL s l && decide (s.h l.toNat=fr)
def handS (s:MemS) (l fr to:Int):MemS:=if hasL s l=true then (if s.h l.toNat=fr then putL (tickS s) l.toNat to else tickS s) else s
set_option maxHeartbeats 800000 in
theorem mem_hand (l fr to:Int) (hto:-1≤to) {w:World} {lo b:Nat} {s:MemS} (hm:MemAt w 112 lo b s) (ht:s.t≤4611686018427387904) :
  Calls Tryz.prog 55 #[.pointer (some ⟨b,0,none⟩),.int .i64 l,.int .i64 fr,.int .i64 to] w (MemDid 112 lo b (handS s l fr to) (.bool (handB s l fr)) w):=by
 have HH:=mem_hasLock l hm
 obtain ⟨bc,bl,hm⟩:=hm
 obtain ⟨h0,h1,h2,h3⟩:=hm.at_
 have HM:=Lib.hid hm
 cases hc:hasL s l
 ·rw [hc] at HH
  have e1:handB s l fr=false:=by simp [handB,hc]
  have e2:handS s l fr to=s:=by simp [handS,hc]
  rw [e1,e2]
  have HH:=Lib.hid HH
  clear hc hm
  go_enter Tryz.func55,Tryz.ntmps55
  go_wp2_with fail
  refine (HH.out).mono ?_
  rintro e w1 ⟨rfl,rfl⟩
  go_wp2
  go_ret
  exact ⟨rfl,⟨bc,bl,HM.out⟩,Touch.refl _ _⟩
 ·rw [hc] at HH
  have HH:=Lib.hid HH
  obtain ⟨hi0,hi1⟩:=hasL_iff.1 hc
  obtain ⟨k,rfl⟩:=Int.eq_ofNat_of_zero_le hi0
  have hk:k < s.L:=by omega
  have HT:=Lib.hid hm.tick
  have HT2:=Lib.hid (hm.tick.putL k to hto)
  obtain ⟨hk1,hk2⟩:=hm.tick.l_at (k:=k) hk
  obtain ⟨g0,g1,g2,g3⟩:=hm.tick.at_
  have hb1:=hm.b1
  have hb2:=hm.b2
  have hc1:=hm.l1
  have hc2:=hm.l2
  have hlb:=hm.lb
  have ht0:=hm.t0
  have hhk:=hm.hh k
  change World.cell? _ ⟨b,1,none⟩=some (.slice (some ⟨bl,0,none⟩) s.L s.L) at g1
  change World.cell? _ ⟨bl,k,none⟩=some (.int .i64 (s.h k)) at hk1
  by_cases hq:s.h k=fr
  ·have e1:handB s (k:Int) fr=true:=by simp [handB,hc,hq]
   have e2:handS s (k:Int) fr to=putL (tickS s) k to:=by simp [handS,hc,hq]
   rw [e1,e2]
   have hne:(s.h k != fr)=false:=by simp [hq]
   have HQ:=Lib.hid hq
   clear hc hm g0 g2 g3 hq e1 e2
   go_enter Tryz.func55,Tryz.ntmps55
   go_wp2_with fail
   refine (HH.out).mono ?_
   rintro e w1 ⟨rfl,rfl⟩
   go_wp2
   go_ret
   exact ⟨rfl,⟨bc,bl,HT2.out⟩,((Touch.refl _ _).setCell hb1 hb2 _).setCell hc1 hc2 _⟩
  ·have e1:handB s (k:Int) fr=false:=by simp [handB,hc,hq]
   have e2:handS s (k:Int) fr to=tickS s:=by simp [handS,hc,hq]
   rw [e1,e2]
   have hne:(s.h k != fr)=true:=by simp [hq]
   clear hc hm g0 g2 g3 hq hk2 e1 e2
   go_enter Tryz.func55,Tryz.ntmps55
   go_wp2_with fail
   refine (HH.out).mono ?_
   rintro e w1 ⟨rfl,rfl⟩
   go_wp2
   go_ret
   exact ⟨rfl,⟨bc,bl,HT.out⟩,(Touch.refl _ _).setCell hb1 hb2 _⟩
theorem mem_Take (l who:Int) {w:World} {lo b:Nat} {s:MemS} (hm:MemAt w 112 lo b s) (ht:s.t≤4611686018427387904) :
  Calls Tryz.prog 19 #[.pointer (some ⟨b,0,none⟩),.int .i64 l,.int .i64 who] w (MemDid 112 lo b (takeS s l who) (.bool (takeB s l who)) w):=by
 by_cases hw:0≤who
 ·have HH:=mem_hand l (-1) (who) (by omega) hm ht
  have e1:handB s l (-1)=takeB s l who:=by simp [handB,takeB,okWho,hw]
  have e2:handS s l (-1) (who)=takeS s l who:=by simp [handS,takeS,okWho,hw]
  rw [e1,e2] at HH
  have HH:=Lib.hid HH
  have hd:decide (0≤who)=true:=by simpa using hw
  clear e1 e2 ht
  go_enter Tryz.func19,Tryz.ntmps19
  go_wp2_with fail
  refine (HH.out).mono ?_
  rintro e w1 ⟨rfl,hm1,ht1⟩
  have HM1:=Lib.hid hm1
  have HT1:=Lib.hid ht1
  clear hm1 ht1
  go_wp2
  go_ret
  exact ⟨rfl,HM1.out,HT1.out⟩
 ·have e1:takeB s l who=false:=by simp [takeB,okWho,hw]
  have e2:takeS s l who=s:=by simp [takeS,okWho,hw]
  rw [e1,e2]
  have hd:decide (0≤who)=false:=by simpa using hw
  have HM:=Lib.hid hm
  clear e1 e2 ht hm
  go_enter Tryz.func19,Tryz.ntmps19
  go_wp2
  go_ret
  exact ⟨rfl,HM.out,Touch.refl _ _⟩
theorem mem_Free (l who:Int) {w:World} {lo b:Nat} {s:MemS} (hm:MemAt w 112 lo b s) (ht:s.t≤4611686018427387904) :
  Calls Tryz.prog 32 #[.pointer (some ⟨b,0,none⟩),.int .i64 l,.int .i64 who] w (MemDid 112 lo b (freeS s l who) (.bool (freeB s l who)) w):=by
 by_cases hw:0≤who
 ·have HH:=mem_hand l (who) (-1) (by omega) hm ht
  have e1:handB s l (who)=freeB s l who:=by simp [handB,freeB,okWho,hw]
  have e2:handS s l (who) (-1)=freeS s l who:=by simp [handS,freeS,okWho,hw]
  rw [e1,e2] at HH
  have HH:=Lib.hid HH
  have hd:decide (0≤who)=true:=by simpa using hw
  clear e1 e2 ht
  go_enter Tryz.func32,Tryz.ntmps32
  go_wp2_with fail
  refine (HH.out).mono ?_
  rintro e w1 ⟨rfl,hm1,ht1⟩
  have HM1:=Lib.hid hm1
  have HT1:=Lib.hid ht1
  clear hm1 ht1
  go_wp2
  go_ret
  exact ⟨rfl,HM1.out,HT1.out⟩
 ·have e1:freeB s l who=false:=by simp [freeB,okWho,hw]
  have e2:freeS s l who=s:=by simp [freeS,okWho,hw]
  rw [e1,e2]
  have hd:decide (0≤who)=false:=by simpa using hw
  have HM:=Lib.hid hm
  clear e1 e2 ht hm
  go_enter Tryz.func32,Tryz.ntmps32
  go_wp2
  go_ret
  exact ⟨rfl,HM.out,Touch.refl _ _⟩
end Go.Proofs.YthloabdfkakehaaGreat
