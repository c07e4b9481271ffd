/-
  Words and contracts that a statement's proof rests on (PlainRg, MemB, RgA). No statement is proved here.
-/
import Derived.Laws.Bits64
import Derived.WalkKit
import Derived.Test.YthloabdfkakehaaFgF
set_option linter.unusedVariables false
set_option linter.unusedSimpArgs false
namespace Go.Proofs.Ythloabdfkakehaa
section
structure RgS where
 m:MemS
 ba:Nat
 sz:Nat
 st:Int
 pu:Bool
 po:Bool
def tickR (g:RgS):RgS:={ g with m:=tickS g.m }
def putR (g:RgS) (k:Nat) (v:Int):RgS:={ g with m:=putC (tickS g.m) k v }
structure Fits (g:RgS):Prop where
 cells:g.ba + 2 + g.sz≤g.m.C
 mem:g.m.C≤1048576
 one:1≤g.sz
 most:g.sz≤64
structure RngQ (g:RgS) (p t:Nat) (q:List Int):Prop where
 fits:Fits g
 st0:0≤g.st
 st1:g.st < 18446744073709551616
 cp:g.m.c g.ba=(g.st + p) % 18446744073709551616
 ct:g.m.c (g.ba + 1)=(g.st + t) % 18446744073709551616
 tp:t≤p
 len:q.length=p - t
 room:p - t≤g.sz
 few:p≤1000000
 num:∀ i (h:i < q.length),g.m.c (g.ba + 2 + (t + i) % g.sz)=q[i]
theorem RngQ.tick {g:RgS} {p t:Nat} {q:List Int} (h:RngQ g p t q):RngQ (tickR g) p t q :=
 ⟨⟨h.fits.cells,h.fits.mem,h.fits.one,h.fits.most⟩,h.st0,h.st1,h.cp,h.ct,h.tp,h.len,h.room,h.few,h.num⟩
theorem mod_ne {a b n:Nat} (hab:a < b) (h:b < a + n):a % n ≠ b % n:=by
 intro e
 have h1:=Nat.div_add_mod a n
 have h2:=Nat.div_add_mod b n
 rw [e] at h1
 have h3:n * (a / n) < n * (b / n):=by omega
 have h4:a / n < b / n:=Nat.lt_of_mul_lt_mul_left h3
 have h5:n * (a / n + 1)≤n * (b / n):=Nat.mul_le_mul_left _ h4
 rw [Nat.mul_add] at h5
 omega
theorem RngQ.put {g:RgS} {p t:Nat} {q:List Int} (h:RngQ g p t q) (hr:p - t < g.sz) (v:Int):RngQ (putR g (g.ba + 2 + p % g.sz) v) p t q:=by
 refine ⟨⟨h.fits.cells,h.fits.mem,h.fits.one,h.fits.most⟩,h.st0,h.st1,?_,?_,h.tp,h.len,h.room,h.few,fun i hi => ?_⟩
 ·show (if g.ba=_ then _ else _)=_
  rw [if_neg (by omega)]; exact h.cp
 ·show (if g.ba + 1=_ then _ else _)=_
  rw [if_neg (by omega)]; exact h.ct
 ·show (if g.ba + 2 + (t + i) % g.sz=_ then _ else _)=_
  have:=h.len
  have:=h.tp
  rw [if_neg (by have:=mod_ne (a:=t + i) (b:=p) (n:=g.sz) (by omega) (by omega); omega)]
  exact h.num i hi
theorem RngQ.push {g:RgS} {p t:Nat} {q:List Int} (h:RngQ g p t q) (hr:p - t < g.sz) (hf:p + 1≤1000000) {v:Int} (hv:g.m.c (g.ba + 2 + p % g.sz)=v) :
  RngQ (putR g g.ba (((g.st + p) % 18446744073709551616 + 1) % 18446744073709551616)) (p + 1) t (q ++ [v]):=by
 have hl:=h.len
 have htp:=h.tp
 refine ⟨⟨h.fits.cells,h.fits.mem,h.fits.one,h.fits.most⟩,h.st0,h.st1,?_,?_,by omega,by simp; omega,by show p + 1 - t≤g.sz; omega,hf,fun i hi => ?_⟩
 ·show (if g.ba=g.ba then _ else _)=(g.st + ((p + 1:Nat):Int)) % _
  rw [if_pos rfl]; omega
 ·show (if g.ba + 1=g.ba then _ else _)=_
  rw [if_neg (by omega)]; exact h.ct
 ·show (if g.ba + 2 + (t + i) % g.sz=g.ba then _ else _)=_
  rw [if_neg (by omega)]
  by_cases hi2:i < q.length
  ·rw [List.getElem_append_left hi2]; exact h.num i hi2
  ·have:i=p - t:=by simp at hi; omega
   rw [List.getElem_append_right (by omega)]
   simp
   rw [show t + i=p by omega]; exact hv
end
section
open Go.RowKit
theorem mem_Cells {w:World} {lo b:Nat} {s:MemS} (hm:MemAt w 82 lo b s) :
  Calls Try.prog 46 #[.pointer (some ⟨b,0,none⟩)] w fun e w' => e=.returned (.int .i64 (s.C:Int))∧w=w':=by
 obtain ⟨bc,bl,hm⟩:=hm
 obtain ⟨h0,h1,h2,h3⟩:=hm.at_
 go_enter Try.func46,Try.ntmps46
 go_wp2
 go_ret
 exact ⟨rfl,rfl⟩
theorem mem_Locks {w:World} {lo b:Nat} {s:MemS} (hm:MemAt w 82 lo b s) :
  Calls Try.prog 47 #[.pointer (some ⟨b,0,none⟩)] w fun e w' => e=.returned (.int .i64 (s.L:Int))∧w=w':=by
 obtain ⟨bc,bl,hm⟩:=hm
 obtain ⟨h0,h1,h2,h3⟩:=hm.at_
 go_enter Try.func47,Try.ntmps47
 go_wp2
 go_ret
 exact ⟨rfl,rfl⟩
theorem mem_Time {w:World} {lo b:Nat} {s:MemS} (hm:MemAt w 82 lo b s) :
  Calls Try.prog 30 #[.pointer (some ⟨b,0,none⟩)] w fun e w' => e=.returned (.int .i64 s.t)∧w=w':=by
 obtain ⟨bc,bl,hm⟩:=hm
 obtain ⟨h0,h1,h2,h3⟩:=hm.at_
 go_enter Try.func30,Try.ntmps30
 go_wp2
 go_ret
 exact ⟨rfl,rfl⟩
theorem mem_hasCell (i:Int) {w:World} {lo b:Nat} {s:MemS} (hm:MemAt w 82 lo b s) :
  Calls Try.prog 84 #[.pointer (some ⟨b,0,none⟩),.int .i64 i] w fun e w' => e=.returned (.bool (hasC s i))∧w=w':=by
 have HC:=Lib.hid (mem_Cells hm)
 obtain ⟨bc,bl,hm⟩:=hm
 obtain ⟨h0,h1,h2,h3⟩:=hm.at_
 have hb:=hm.cb
 unfold hasC
 clear hm
 by_cases hi:0≤i
 ·have hd:decide (0≤i)=true:=by simpa using hi
  go_enter Try.func84,Try.ntmps84
  go_wp2_with fail
  refine (HC.out).mono ?_
  rintro e w1 ⟨rfl,rfl⟩
  go_wp2
  go_ret
  exact ⟨ret_bool (by simp [hi]),rfl⟩
 ·have hd:decide (0≤i)=false:=by simpa using hi
  go_enter Try.func84,Try.ntmps84
  go_wp2
  go_ret
  exact ⟨ret_bool (by simp),rfl⟩
theorem mem_hasLock (i:Int) {w:World} {lo b:Nat} {s:MemS} (hm:MemAt w 82 lo b s) :
  Calls Try.prog 75 #[.pointer (some ⟨b,0,none⟩),.int .i64 i] w fun e w' => e=.returned (.bool (hasL s i))∧w=w':=by
 have HC:=Lib.hid (mem_Locks hm)
 obtain ⟨bc,bl,hm⟩:=hm
 obtain ⟨h0,h1,h2,h3⟩:=hm.at_
 have hb:=hm.lb
 unfold hasL
 clear hm
 by_cases hi:0≤i
 ·have hd:decide (0≤i)=true:=by simpa using hi
  go_enter Try.func75,Try.ntmps75
  go_wp2_with fail
  refine (HC.out).mono ?_
  rintro e w1 ⟨rfl,rfl⟩
  go_wp2
  go_ret
  exact ⟨ret_bool (by simp [hi]),rfl⟩
 ·have hd:decide (0≤i)=false:=by simpa using hi
  go_enter Try.func75,Try.ntmps75
  go_wp2
  go_ret
  exact ⟨ret_bool (by simp),rfl⟩
theorem mem_Holder (i:Int) {w:World} {lo b:Nat} {s:MemS} (hm:MemAt w 82 lo b s) :
  Calls Try.prog 34 #[.pointer (some ⟨b,0,none⟩),.int .i64 i] w fun e w' => e=.returned (.int .i64 (holdS s i))∧w=w':=by
 have HH:=mem_hasLock i hm
 obtain ⟨bc,bl,hm⟩:=hm
 obtain ⟨h0,h1,h2,h3⟩:=hm.at_
 unfold holdS
 cases hc:hasL s i
 ·rw [hc] at HH
  rw [if_neg (by simp)]
  have HH:=Lib.hid HH
  clear hc hm
  go_enter Try.func34,Try.ntmps34
  go_wp2_with fail
  refine (HH.out).mono ?_
  rintro e w1 ⟨rfl,rfl⟩
  go_wp2
  go_ret
  exact ⟨rfl,rfl⟩
 ·rw [hc] at HH
  rw [if_pos rfl]
  have HH:=Lib.hid HH
  obtain ⟨hi0,hi1⟩:=hasL_iff.1 hc
  obtain ⟨k,rfl⟩:=Int.eq_ofNat_of_zero_le hi0
  rw [Int.toNat_natCast]
  obtain ⟨hk1,hk2⟩:=hm.l_at (k:=k) (by omega)
  have hcb:=hm.cb
  have hlb:=hm.lb
  clear hc hm
  go_enter Try.func34,Try.ntmps34
  go_wp2_with fail
  refine (HH.out).mono ?_
  rintro e w1 ⟨rfl,rfl⟩
  go_wp2
  go_ret
  exact ⟨rfl,rfl⟩
set_option maxHeartbeats 800000 in
theorem mem_Load (i:Int) {w:World} {lo b:Nat} {s:MemS} (hm:MemAt w 82 lo b s) (ht:s.t≤4611686018427387904) :
  Calls Try.prog 87 #[.pointer (some ⟨b,0,none⟩),.int .i64 i] w (MemDid 82 lo b (loadS s i) (.int .u64 (peekS s i)) w):=by
 have HH:=mem_hasCell i hm
 obtain ⟨bc,bl,hm⟩:=hm
 obtain ⟨h0,h1,h2,h3⟩:=hm.at_
 have HM:=Lib.hid hm
 unfold peekS loadS
 cases hc:hasC s i
 ·rw [hc] at HH
  rw [if_neg (by simp),if_neg (by simp)]
  have HH:=Lib.hid HH
  clear hc hm
  go_enter Try.func87,Try.ntmps87
  go_wp2_with fail
  refine (HH.out).mono ?_
  rintro e w1 ⟨rfl,rfl⟩
  go_wp2
  go_ret
  exact ⟨rfl,⟨bc,bl,HM.out⟩,Touch.refl _ _⟩
 ·rw [hc] at HH
  rw [if_pos rfl,if_pos rfl]
  have HH:=Lib.hid HH
  obtain ⟨hi0,hi1⟩:=hasC_iff.1 hc
  obtain ⟨k,rfl⟩:=Int.eq_ofNat_of_zero_le hi0
  rw [Int.toNat_natCast]
  have hk:k < s.C:=by omega
  have HT:=Lib.hid hm.tick
  obtain ⟨hk1,hk2⟩:=hm.tick.c_at (k:=k) hk
  obtain ⟨g0,g1,g2,g3⟩:=hm.tick.at_
  have hb1:=hm.b1
  have hb2:=hm.b2
  have hcb:=hm.cb
  have ht0:=hm.t0
  change World.cell? _ ⟨b,0,none⟩=some (.slice (some ⟨bc,0,none⟩) s.C s.C) at g0
  change World.cell? _ ⟨bc,k,none⟩=some (.int .u64 (s.c k)) at hk1
  clear hc hm g1 g2 g3 hk2
  go_enter Try.func87,Try.ntmps87
  go_wp2_with fail
  refine (HH.out).mono ?_
  rintro e w1 ⟨rfl,rfl⟩
  go_wp2
  go_ret
  exact ⟨rfl,⟨bc,bl,HT.out⟩,(Touch.refl _ _).setCell hb1 hb2 _⟩
set_option maxHeartbeats 800000 in
theorem mem_Store (i v:Int) {w:World} {lo b:Nat} {s:MemS} (hm:MemAt w 82 lo b s) (ht:s.t≤4611686018427387904) :
  Calls Try.prog 93 #[.pointer (some ⟨b,0,none⟩),.int .i64 i,.int .u64 v] w (MemDid 82 lo b (storeS s i v) (.tuple #[]) w):=by
 have HH:=mem_hasCell i hm
 obtain ⟨bc,bl,hm⟩:=hm
 obtain ⟨h0,h1,h2,h3⟩:=hm.at_
 have HM:=Lib.hid hm
 unfold storeS
 cases hc:hasC s i
 ·rw [hc] at HH
  rw [if_neg (by simp)]
  have HH:=Lib.hid HH
  clear hc hm
  go_enter Try.func93,Try.ntmps93
  go_wp2_with fail
  refine (HH.out).mono ?_
  rintro e w1 ⟨rfl,rfl⟩
  go_wp2
  go_end0
  exact ⟨rfl,⟨bc,bl,HM.out⟩,Touch.refl _ _⟩
 ·rw [hc] at HH
  rw [if_pos rfl]
  have HH:=Lib.hid HH
  obtain ⟨hi0,hi1⟩:=hasC_iff.1 hc
  obtain ⟨k,rfl⟩:=Int.eq_ofNat_of_zero_le hi0
  rw [Int.toNat_natCast]
  have hk:k < s.C:=by omega
  have HT:=Lib.hid (hm.tick.putC k v)
  obtain ⟨hk1,hk2⟩:=hm.tick.c_at (k:=k) hk
  obtain ⟨g0,g1,g2,g3⟩:=hm.tick.at_
  have hb1:=hm.b1
  have hb2:=hm.b2
  have hc1:=hm.c1
  have hc2:=hm.c2
  have hcb:=hm.cb
  have ht0:=hm.t0
  change World.cell? _ ⟨b,0,none⟩=some (.slice (some ⟨bc,0,none⟩) s.C s.C) at g0
  change World.cell? _ ⟨bc,k,none⟩=some (.int .u64 (s.c k)) at hk1
  clear hc hm g1 g2 g3
  go_enter Try.func93,Try.ntmps93
  go_wp2_with fail
  refine (HH.out).mono ?_
  rintro e w1 ⟨rfl,rfl⟩
  go_wp2
  go_end0
  exact ⟨rfl,⟨bc,bl,HT.out⟩,((Touch.refl _ _).setCell hb1 hb2 _).setCell hc1 hc2 _⟩
def handB (s:MemS) (l fr:Int):Bool:=hasL s l && decide (s.h l.toNat=fr)
def handS (s:MemS) (l fr to:Int):MemS:=if hasL s l=true then (if s.h l.toNat=fr then putL (tickS s) l.toNat to else tickS s) else s
set_option maxHeartbeats 800000 in
theorem mem_hand (l fr to:Int) (hto:-1≤to) {w:World} {lo b:Nat} {s:MemS} (hm:MemAt w 82 lo b s) (ht:s.t≤4611686018427387904) :
  Calls Try.prog 108 #[.pointer (some ⟨b,0,none⟩),.int .i64 l,.int .i64 fr,.int .i64 to] w (MemDid 82 lo b (handS s l fr to) (.bool (handB s l fr)) w):=by
 have HH:=mem_hasLock l hm
 obtain ⟨bc,bl,hm⟩:=hm
 obtain ⟨h0,h1,h2,h3⟩:=hm.at_
 have HM:=Lib.hid hm
 cases hc:hasL s l
 ·rw [hc] at HH
  have e1:handB s l fr=false:=by simp [handB,hc]
  have e2:handS s l fr to=s:=by simp [handS,hc]
  rw [e1,e2]
  have HH:=Lib.hid HH
  clear hc hm
  go_enter Try.func108,Try.ntmps108
  go_wp2_with fail
  refine (HH.out).mono ?_
  rintro e w1 ⟨rfl,rfl⟩
  go_wp2
  go_ret
  exact ⟨rfl,⟨bc,bl,HM.out⟩,Touch.refl _ _⟩
 ·rw [hc] at HH
  have HH:=Lib.hid HH
  obtain ⟨hi0,hi1⟩:=hasL_iff.1 hc
  obtain ⟨k,rfl⟩:=Int.eq_ofNat_of_zero_le hi0
  have hk:k < s.L:=by omega
  have HT:=Lib.hid hm.tick
  have HT2:=Lib.hid (hm.tick.putL k to hto)
  obtain ⟨hk1,hk2⟩:=hm.tick.l_at (k:=k) hk
  obtain ⟨g0,g1,g2,g3⟩:=hm.tick.at_
  have hb1:=hm.b1
  have hb2:=hm.b2
  have hc1:=hm.l1
  have hc2:=hm.l2
  have hlb:=hm.lb
  have ht0:=hm.t0
  have hhk:=hm.hh k
  change World.cell? _ ⟨b,1,none⟩=some (.slice (some ⟨bl,0,none⟩) s.L s.L) at g1
  change World.cell? _ ⟨bl,k,none⟩=some (.int .i64 (s.h k)) at hk1
  by_cases hq:s.h k=fr
  ·have e1:handB s (k:Int) fr=true:=by simp [handB,hc,hq]
   have e2:handS s (k:Int) fr to=putL (tickS s) k to:=by simp [handS,hc,hq]
   rw [e1,e2]
   have hne:(s.h k != fr)=false:=by simp [hq]
   have HQ:=Lib.hid hq
   clear hc hm g0 g2 g3 hq e1 e2
   go_enter Try.func108,Try.ntmps108
   go_wp2_with fail
   refine (HH.out).mono ?_
   rintro e w1 ⟨rfl,rfl⟩
   go_wp2
   go_ret
   exact ⟨rfl,⟨bc,bl,HT2.out⟩,((Touch.refl _ _).setCell hb1 hb2 _).setCell hc1 hc2 _⟩
  ·have e1:handB s (k:Int) fr=false:=by simp [handB,hc,hq]
   have e2:handS s (k:Int) fr to=tickS s:=by simp [handS,hc,hq]
   rw [e1,e2]
   have hne:(s.h k != fr)=true:=by simp [hq]
   clear hc hm g0 g2 g3 hq hk2 e1 e2
   go_enter Try.func108,Try.ntmps108
   go_wp2_with fail
   refine (HH.out).mono ?_
   rintro e w1 ⟨rfl,rfl⟩
   go_wp2
   go_ret
   exact ⟨rfl,⟨bc,bl,HT.out⟩,(Touch.refl _ _).setCell hb1 hb2 _⟩
theorem mem_Take (l who:Int) {w:World} {lo b:Nat} {s:MemS} (hm:MemAt w 82 lo b s) (ht:s.t≤4611686018427387904) :
  Calls Try.prog 91 #[.pointer (some ⟨b,0,none⟩),.int .i64 l,.int .i64 who] w (MemDid 82 lo b (takeS s l who) (.bool (takeB s l who)) w):=by
 by_cases hw:0≤who
 ·have HH:=mem_hand l (-1) (who) (by omega) hm ht
  have e1:handB s l (-1)=takeB s l who:=by simp [handB,takeB,okWho,hw]
  have e2:handS s l (-1) (who)=takeS s l who:=by simp [handS,takeS,okWho,hw]
  rw [e1,e2] at HH
  have HH:=Lib.hid HH
  have hd:decide (0≤who)=true:=by simpa using hw
  clear e1 e2 ht
  go_enter Try.func91,Try.ntmps91
  go_wp2_with fail
  refine (HH.out).mono ?_
  rintro e w1 ⟨rfl,hm1,ht1⟩
  have HM1:=Lib.hid hm1
  have HT1:=Lib.hid ht1
  clear hm1 ht1
  go_wp2
  go_ret
  exact ⟨rfl,HM1.out,HT1.out⟩
 ·have e1:takeB s l who=false:=by simp [takeB,okWho,hw]
  have e2:takeS s l who=s:=by simp [takeS,okWho,hw]
  rw [e1,e2]
  have hd:decide (0≤who)=false:=by simpa using hw
  have HM:=Lib.hid hm
  clear e1 e2 ht hm
  go_enter Try.func91,Try.ntmps91
  go_wp2
  go_ret
  exact ⟨rfl,HM.out,Touch.refl _ _⟩
theorem mem_Free (l who:Int) {w:World} {lo b:Nat} {s:MemS} (hm:MemAt w 82 lo b s) (ht:s.t≤4611686018427387904) :
  Calls Try.prog 94 #[.pointer (some ⟨b,0,none⟩),.int .i64 l,.int .i64 who] w (MemDid 82 lo b (freeS s l who) (.bool (freeB s l who)) w):=by
 by_cases hw:0≤who
 ·have HH:=mem_hand l (who) (-1) (by omega) hm ht
  have e1:handB s l (who)=freeB s l who:=by simp [handB,freeB,okWho,hw]
  have e2:handS s l (who) (-1)=freeS s l who:=by simp [handS,freeS,okWho,hw]
  rw [e1,e2] at HH
  have HH:=Lib.hid HH
  have hd:decide (0≤who)=true:=by simpa using hw
  clear e1 e2 ht
  go_enter Try.func94,Try.ntmps94
  go_wp2_with fail
  refine (HH.out).mono ?_
  rintro e w1 ⟨rfl,hm1,ht1⟩
  have HM1:=Lib.hid hm1
  have HT1:=Lib.hid ht1
  clear hm1 ht1
  go_wp2
  go_ret
  exact ⟨rfl,HM1.out,HT1.out⟩
 ·have e1:freeB s l who=false:=by simp [freeB,okWho,hw]
  have e2:freeS s l who=s:=by simp [freeS,okWho,hw]
  rw [e1,e2]
  have hd:decide (0≤who)=false:=by simpa using hw
  have HM:=Lib.hid hm
  clear e1 e2 ht hm
  go_enter Try.func94,Try.ntmps94
  go_wp2
  go_ret
  exact ⟨rfl,HM.out,Touch.refl _ _⟩
end
section
open Go.RowKit
structure Tch (D:Nat→Prop) (w w':World):Prop where
 os:w'.os=w.os
 tape:w'.tape=w.tape
 output:w'.output=w.output
 size:w.heap.size≤w'.heap.size
 block:∀ k,k < w.heap.size→¬ D k→w'.heap[k]?=w.heap[k]?
theorem Tch.refl (D:Nat→Prop) (w:World):Tch D w w:=⟨rfl,rfl,rfl,Nat.le_refl _,fun _ _ _ => rfl⟩
theorem Tch.trans {D:Nat→Prop} {a b c:World} (h:Tch D a b) (k:Tch D b c):Tch D a c :=
 ⟨k.os.trans h.os,k.tape.trans h.tape,k.output.trans h.output,Nat.le_trans h.size k.size,fun i hi hn => (k.block i (Nat.lt_of_lt_of_le hi h.size) hn).trans (h.block i hi hn)⟩
theorem Tch.mono {D E:Nat→Prop} {a b:World} (h:Tch D a b) (hd:∀ k,k < a.heap.size→D k→E k):Tch E a b :=
 ⟨h.os,h.tape,h.output,h.size,fun i hi hn => h.block i hi fun hk => hn (hd i hi hk)⟩
theorem Tch.of_below {D:Nat→Prop} {w w':World} (h:Below w.heap.size w w'):Tch D w w':=⟨h.os,h.tape,h.output,h.size,fun k hk _ => h.block k hk⟩
theorem Tch.of_touch {D:Nat→Prop} {lo:Nat} {w w':World} (h:Touch lo w w') (hd:∀ k,lo≤k→k < lo + 3→D k):Tch D w w' :=
 ⟨h.os,h.tape,h.output,h.size,fun k hk hn => h.block k hk (by
  rcases Nat.lt_or_ge k lo with h1 | h1
  ·exact .inl h1
  ·rcases Nat.lt_or_ge k (lo + 3) with h2 | h2
   ·exact absurd (hd k h1 h2) hn
   ·exact .inr h2)⟩
theorem Tch.setCell {D:Nat→Prop} {a w:World} (h:Tch D a w) {p:Addr} (hp:D p.block) (u:Value):Tch D a (w.setCell p u) :=
 h.trans ⟨rfl,rfl,rfl,by simp [World.setCell],fun k hk hn => Below.heap_setCell _ _ _ _ (by intro e; exact hn (by rw [e]; exact hp))⟩
theorem Tch.alloc {D:Nat→Prop} {a w:World} (h:Tch D a w) (o:Obj):Tch D a (w.alloc o):=h.trans (Tch.of_below ((Below.refl _ _).alloc (Nat.le_refl _) o))
theorem Tch.drewN {D:Nat→Prop} {a w:World} (h:Tch D a w) (n:Nat):Tch D a (w.drewN n):=h.trans (Tch.of_below (below_drewN (Below.refl _ _) n))
theorem Tch.below {D:Nat→Prop} {B:Nat} {W w w':World} (h:Tch D w w') (hb:Below B W w) (hB:∀ k,D k→B≤k) (hB2:B≤w.heap.size):Below B W w' :=
 hb.trans ⟨h.os,h.tape,h.output,h.size,fun k hk => h.block k (by omega) (fun hd => by have:=hB k hd; omega)⟩
theorem Tch.cell {D:Nat→Prop} {w w':World} (h:Tch D w w') {p:Addr} (hp:p.block < w.heap.size) (hd:¬ D p.block):w'.cell? p=w.cell? p :=
 World.cell?_of_block (w:=w) (h.block p.block hp hd)
theorem rowIs_tch {D:Nat→Prop} {w w':World} {g M:Nat} {T:TypeId} {f:Nat→Value} (h:w.rowIs g T M f) (ht:Tch D w w') (hd:¬ D g):w'.rowIs g T M f:=h.of_block (ht.block g h.lt hd)
theorem MemAt.tch {D:Nat→Prop} {w w':World} {T:TypeId} {lo b:Nat} {s:MemS} (h:MemAt w T lo b s) (ht:Tch D w w') (hd:∀ k,lo≤k→k < lo + 3→¬ D k):MemAt w' T lo b s:=by
 obtain ⟨bc,bl,h⟩:=h
 exact ⟨bc,bl,h.of_blocks fun k h1 h2 hk => ht.block k hk (hd k h1 h2)⟩
theorem own_tch {D:Nat→Prop} {w w':World} {B size n:Nat} {e:TypeId} {v:Value} {xs:List Value} (h:w.ownsRow B e size v n xs) (ht:Tch D w w') (hd:∀ k,v.ownBlock=some k→¬ D k):w'.ownsRow B e size v n xs:=by
 obtain ⟨h1,h2⟩:=h
 refine ⟨h1,?_⟩
 rcases h2 with h2 | ⟨g,cap,cur,hv,hb,hg,rest⟩
 ·exact .inl h2
 ·have hlt:g < w.heap.size:=by
   rcases Nat.lt_or_ge g w.heap.size with h | h
   ·exact h
   ·rw [Array.getElem?_eq_none h] at hg; simp at hg
  exact .inr ⟨g,cap,cur,hv,hb,(ht.block g hlt (hd g (by rw [hv]; rfl))).trans hg,rest⟩
theorem hasC_k {s:MemS} {k:Nat} (hk:k < s.C):hasC s (k:Int)=true:=hasC_iff.2 ⟨by omega,by omega⟩
theorem loadS_k {s:MemS} {k:Nat} (hk:k < s.C):loadS s (k:Int)=tickS s:=by unfold loadS; rw [if_pos (hasC_k hk)]
theorem peekS_k {s:MemS} {k:Nat} (hk:k < s.C):peekS s (k:Int)=s.c k:=by unfold peekS; rw [if_pos (hasC_k hk),Int.toNat_natCast]
theorem storeS_k {s:MemS} {k:Nat} (hk:k < s.C) (v:Int):storeS s (k:Int) v=putC (tickS s) k v:=by unfold storeS; rw [if_pos (hasC_k hk),Int.toNat_natCast]
end
end Go.Proofs.Ythloabdfkakehaa
