/-
  Words and contracts that a statement's proof rests on (FdS). No statement is proved here.
-/
import Derived.Lib.Walk
import Derived.Lib.SliceRun
import Derived.Lib.AppendZerosOnto
import Derived.Test.YthloabdfkakehaaFdW
import Derived.Test.YthloabdfkakehaaFdE
set_option linter.unusedVariables false
set_option linter.unusedSimpArgs false
namespace Go.Proofs.Ythloabdfkakehaa
open Go.RowKit
theorem difB_no {f g:Nat→Pl} {n k:Nat} (hk:k < n) (h:f k ≠ g k):difB n f g=true:=by
 unfold difB
 rw [List.any_eq_true]
 exact ⟨k,by simpa using hk,by simpa using h⟩
section
variable {w:World} {n:Nat} {y z:Value} {f g:Nat→Pl}
set_option maxRecDepth 20000 in
set_option maxHeartbeats 3200000 in
theorem places_Equal (hy:PlRow w w.heap.size y n f) (hz:PlRow w w.heap.size z n g) (hn:n≤1000000) :
  Calls Try.prog 109 #[y,z] w (Says (.bool (!difB n f g)) w):=by
 obtain ⟨A,cap,rfl,h1,h2,h3⟩:=hy
 obtain ⟨A',cap',rfl,h1',h2',h3'⟩:=hz
 have HC:=Lib.hid h3
 have HC':=Lib.hid h3'
 have HDN:=Lib.hid fun k (hk:k < n) (h:f k ≠ g k) => difB_no hk h
 have HDY:Hid (eqP n f g→difB n f g=false):=Lib.hid difB_iff.2
 generalize difB n f g=D at *
 have HNN:=Lib.hid hn
 unfold maxLen at h2 h2'
 have hnn:((n:Int) != (n:Int))=false:=by simp
 clear h3 h3' hn
 go_enter Try.func109,Try.ntmps109
 go_wp2
 go_loopw [13] (fun i wr => ∃ k q:Nat,k≤n∧i=.int .i64 k∧wr=w.drewN q∧Hid (∀ j,j < k→f j=g j)) (fun i _ => n - (intOf i).toNat)
 case atStart => exact ⟨0,0,by omega,rfl,rfl,fun j hj => absurd hj (by omega)⟩
 case round =>
  obtain ⟨k,q,hk,rfl,rfl,HE⟩:=hrel
  by_cases hlt:k < n
  ·obtain ⟨b,off,rfl,hb,hc⟩:=HC.out (by omega)
   obtain ⟨b',off',rfl,hb',hc'⟩:=HC'.out (by omega)
   have g0:(0:Int)≤(k:Int):=Int.natCast_nonneg _
   have g1:(k:Int) < (n:Int):=by omega
   have hkb:k < 1000000:=by have:=HNN.out; omega
   obtain ⟨c0,c1,c2,c3,c4,c5⟩:=hc k hlt
   obtain ⟨e0,e1,e2,e3,e4,e5⟩:=hc' k hlt
   have HX:Hid (∀ x y:Pl,f k=x→g k=y→x ≠ y→D=true):=Lib.hid fun x y h1 h2 h3 => HDN.out k hlt (by rw [h1,h2]; exact h3)
   have HS:Hid (f k=g k→∀ j,j < k + 1→f j=g j):=Lib.hid fun h j hj => by
    by_cases e:j=k
    ·rw [e]; exact h
    ·exact HE.out j (by omega)
   obtain ⟨x,hx⟩:∃ x,x=f k:=⟨_,rfl⟩
   obtain ⟨y,hy⟩:∃ y,y=g k:=⟨_,rfl⟩
   rw [← hx] at c0 c1 c2 c3 c4 c5 HS
   rw [← hy] at e0 e1 e2 e3 e4 e5 HS
   replace HX:=Lib.hid (HX.out x y hx.symm hy.symm)
   clear hx hy hc hc' hb hb'
   obtain ⟨u0,⟨v0,m0,p0,s0,t0⟩⟩:=x
   obtain ⟨u1,⟨v1,m1,p1,s1,t1⟩⟩:=y
   simp only at c0 c1 c2 c3 c4 c5 e0 e1 e2 e3 e4 e5
   by_cases hne:u0=u1
   ·subst hne
    by_cases hne:v0=v1
    ·subst hne
     by_cases hne:m0=m1
     ·subst hne
      by_cases hne:p0=p1
      ·subst hne
       by_cases hne:s0=s1
       ·subst hne
        by_cases hne:t0=t1
        ·subst hne
         go_wp2_with fail
         go_quiet (fail)
         go_wp2
         go_roundw
         case rel => exact ⟨k + 1,_,by omega,by go_num,rfl,(by first | exact HS.out rfl | exact HS.out trivial)⟩
         case measure => simp [intOf]; omega
        ·have n1:¬ (t0:Int)=(t1:Int):=by omega
         have n2:((t0:Int) == (t1:Int))=false:=by simp; omega
         go_wp2_with fail
         go_quiet (fail)
         go_wp2
         go_ret
         exact ⟨ret_bool (by rw [HX.out (by intro h; injection h with h9 h8; injection h8 with _ _ _ _ h7; exact absurd h7 hne)]; rfl),below_drewN (below_drewN (Below.refl _ _) _) _⟩
       ·have n1:¬ s0=s1:=hne
        have n2:(s0 == s1)=false:=by simpa using hne
        go_wp2_with fail
        go_quiet (fail)
        go_wp2
        go_ret
        exact ⟨ret_bool (by rw [HX.out (by intro h; injection h with h9 h8; injection h8 with _ _ _ h7 _; exact absurd h7 hne)]; rfl),below_drewN (below_drewN (Below.refl _ _) _) _⟩
      ·have n1:¬ p0=p1:=hne
       have n2:(p0 == p1)=false:=by simpa using hne
       go_wp2_with fail
       go_quiet (fail)
       go_wp2
       go_ret
       exact ⟨ret_bool (by rw [HX.out (by intro h; injection h with h9 h8; injection h8 with _ _ h7 _ _; exact absurd h7 hne)]; rfl),below_drewN (below_drewN (Below.refl _ _) _) _⟩
     ·have n1:¬ (m0:Int)=(m1:Int):=by omega
      have n2:((m0:Int) == (m1:Int))=false:=by simp; omega
      go_wp2_with fail
      go_quiet (fail)
      go_wp2
      go_ret
      exact ⟨ret_bool (by rw [HX.out (by intro h; injection h with h9 h8; injection h8 with _ h7 _ _ _; exact absurd h7 hne)]; rfl),below_drewN (below_drewN (Below.refl _ _) _) _⟩
    ·have n1:¬ v0=v1:=hne
     have n2:(v0 == v1)=false:=by simpa using hne
     go_wp2_with fail
     go_quiet (fail)
     go_wp2
     go_ret
     exact ⟨ret_bool (by rw [HX.out (by intro h; injection h with h9 h8; injection h8 with h7 _ _ _ _; exact absurd h7 hne)]; rfl),below_drewN (below_drewN (Below.refl _ _) _) _⟩
   ·have n1:¬ u0=u1:=hne
    have n2:(u0 == u1)=false:=by simpa using hne
    go_wp2_with fail
    go_quiet (fail)
    go_wp2
    go_ret
    exact ⟨ret_bool (by rw [HX.out (by intro h; injection h with h9 h8; exact absurd h9 hne)]; rfl),below_drewN (below_drewN (Below.refl _ _) _) _⟩
  ·have:k=n:=by omega
   subst this
   go_wp2
   go_ret
   exact ⟨ret_bool (by rw [HDY.out HE.out]; rfl),below_drewN (Below.refl _ _) _⟩
def WrDid (l:List (Nat × Int)) (w:World) (e:Ending) (w':World):Prop:=∃ v,e=.returned v∧w'.ownsRow w.heap.size 132 2 v l.length (wrc l)∧Below w.heap.size w w'
theorem Sl.litW (w:World) (cs:Array Value) (e:TypeId) (n size:Nat) (hs:cs.size=n * size) (hm:n≤maxLen):Sl (w.alloc (.cells cs e)) (w.heap.size + 1) size (.slice (some ⟨w.heap.size,0,none⟩) n n) n cs.toList:=by
 refine ⟨by simpa using hs,_,n,rfl,Nat.le_refl _,hm,fun _ => ⟨w.heap.size,0,rfl,by omega,fun j hj => ?_⟩⟩
 simp [go_sem]
theorem wrap_succ4 {k:Nat} (h:k < 4000000):wrap64 ((k:Int) + 1)=((k + 1:Nat):Int)∧IntKind.i64.wrap ((k:Int) + 1)=((k + 1:Nat):Int):=by
 rw [IntWalk.wrap64_in _ (by omega),IntWalk.i64_in _ (by omega)]
 exact ⟨rfl,rfl⟩
theorem chgL_len (a0:Nat) (f g:Nat→Pl):∀ n,(chgL a0 f g n).length≤2 * n
 | 0 => Nat.le_refl _
 | n + 1 => by
  have:=chgL_len a0 f g n
  rw [chgL,List.length_append]
  split <;> simp <;> omega
theorem good_mac {p:Pl} (h:goodP p):p.e.mac < 18446744073709551616:=by
 rcases h with ⟨_,h,_⟩ | rfl
 ·have:=(rightE_iff.1 h).1
  have:=(rightK_iff.1 this).2.2.2.1
  omega
 ·decide
set_option maxRecDepth 20000 in
set_option maxHeartbeats 6400000 in
theorem fdb_changes (a0:Nat) (ha:a0≤2000000) (hy:PlRow w w.heap.size y n f) (hz:PlRow w w.heap.size z n g) (hn:n≤1000) (hg:∀ i,goodP (g i)) :
  Calls Try.prog 110 #[.int .i64 (a0:Nat),y,z] w (WrDid (chgL a0 f g n) w):=by
 obtain ⟨A,cap,rfl,h1,h2,h3⟩:=hy
 obtain ⟨A',cap',rfl,h1',h2',h3'⟩:=hz
 have HC:=Lib.hid h3
 have HC':=Lib.hid h3'
 have HNN:=Lib.hid hn
 have HA0:=Lib.hid ha
 have HGD:=Lib.hid hg
 unfold maxLen at h2 h2'
 clear h3 h3' hn ha hg
 go_enter Try.func110,Try.ntmps110
 go_wp2
 go_loopw [7,15] (fun v i wr => ∃ (k:Nat) (u:Value),u=v∧k≤n∧i=.int .i64 k∧Hid (wr.ownsRow w.heap.size 132 2 u (chgL a0 f g k).length (wrc (chgL a0 f g k)))∧Hid (Below w.heap.size w wr)) (fun _ i _ => n - (intOf i).toNat)
 case atStart => exact ⟨0,_,rfl,by omega,rfl,⟨rfl,.inl ⟨rfl,rfl⟩⟩,Below.refl _ _⟩
 case round =>
  obtain ⟨k,u7,rfl,hk,rfl,HO,HB⟩:=hrel
  by_cases hlt:k < n
  ·obtain ⟨b,off,rfl,hb,hc⟩:=HC.out (by omega)
   obtain ⟨b',off',rfl,hb',hc'⟩:=HC'.out (by omega)
   have g0:(0:Int)≤(k:Int):=Int.natCast_nonneg _
   have g1:(k:Int) < (n:Int):=by omega
   have hkb:k < 1000:=by have:=HNN.out; omega
   have hzw:=HB.out.size
   obtain ⟨c0,c1,c2,c3,c4,c5⟩:=(hc k hlt).keep (w':=wr) fun p hp => HB.out.cell (by rw [hp]; exact hb)
   obtain ⟨e0,e1,e2,e3,e4,e5⟩:=(hc' k hlt).keep (w':=wr) fun p hp => HB.out.cell (by rw [hp]; exact hb')
   have hbr:b < wr.heap.size:=by omega
   obtain ⟨N,hN⟩:∃ N,N=(chgL a0 f g k).length:=⟨_,rfl⟩
   have hNb:N≤2000:=by have:=chgL_len a0 f g k; omega
   have HS:Hid (f k=g k→chgL a0 f g (k + 1)=chgL a0 f g k):=Lib.hid fun h => by rw [chgL,if_pos h,List.append_nil]
   have HD:Hid (f k ≠ g k→chgL a0 f g (k + 1)=chgL a0 f g k ++ [(a0 + 2 * k,wA (g k)),(a0 + 2 * k + 1,wB (g k))]):=Lib.hid fun h => by rw [chgL,if_neg h]
   obtain ⟨J,hJ⟩:∃ J,J=2 * k:=⟨_,rfl⟩
   obtain ⟨AT,hAT⟩:∃ AT,AT=a0 + J:=⟨_,rfl⟩
   obtain ⟨AT1,hAT1⟩:∃ AT1,AT1=AT + 1:=⟨_,rfl⟩
   rw [← hJ,← hAT,← hAT1] at HD
   have ha9:=HA0.out
   have hz1:=wrap_addF (k:=a0) (l:=J) (by omega) (by omega)
   have hz2:=wrap_succ4 (k:=AT) (by clear hz1; omega)
   have hz3:wrap64 (2 * (k:Int))=(J:Int)∧IntKind.i64.wrap (2 * (k:Int))=(J:Int):=by
    have e9:2 * (k:Int)=(J:Int):=by clear hz1 hz2; omega
    rw [e9]
    exact ⟨IntWalk.wrap64_in _ (by clear hz1 hz2; omega),IntWalk.i64_in _ (by clear hz1 hz2; omega)⟩
   rw [← hAT] at hz1
   rw [← hAT1] at hz2
   obtain ⟨y1,y2⟩:=hz1
   obtain ⟨y3,y4⟩:=hz2
   obtain ⟨y5,y6⟩:=hz3
   have hgk:=HGD.out k
   obtain ⟨x,hx⟩:∃ x,x=f k:=⟨_,rfl⟩
   obtain ⟨y,hy⟩:∃ y,y=g k:=⟨_,rfl⟩
   rw [← hx] at c0 c1 c2 c3 c4 c5 HS HD
   rw [← hy] at e0 e1 e2 e3 e4 e5 HS HD hgk
   have HW0:=Lib.hid fun W => slot_Words y.e.vid y.e.mac (good_mac hgk) y.e.port y.e.st y.e.stamp (good_stamp hgk) W
   unfold wA wB at HD
   obtain ⟨wa,hwa⟩:∃ wa:Int,wa=((wordA y.e:Nat):Int):=⟨_,rfl⟩
   obtain ⟨wb,hwb⟩:∃ wb:Int,wb=((wordB y.e:Nat):Int):=⟨_,rfl⟩
   rw [← hwa,← hwb] at HD
   have HW:Hid (∀ W,Calls Try.prog 107 #[.agg #[.int .i64 y.e.vid,.int .u64 (y.e.mac:Int),.int .i64 y.e.port,.bool y.e.st,.int .u32 (y.e.stamp:Int)]] W (Says (.tuple #[.int .u64 wa,.int .u64 wb]) W)):=Lib.hid fun W => by rw [hwa,hwb]; exact HW0.out W
   have HNL:Hid ((chgL a0 f g k).length=N):=Lib.hid hN.symm
   rw [← hN] at HO
   obtain ⟨l,hl⟩:∃ l,l=chgL a0 f g k:=⟨_,rfl⟩
   rw [← hl] at HO HS HD
   have HL:=Lib.hid hl
   clear HW0 hx hy hc hc' hb hb' hJ hAT hAT1 ha9 hgk hN hwa hwb hl
   obtain ⟨u0,⟨v0,m0,p0,s0,t0⟩⟩:=x
   obtain ⟨u1,⟨v1,m1,p1,s1,t1⟩⟩:=y
   simp only at c0 c1 c2 c3 c4 c5 e0 e1 e2 e3 e4 e5 HW
   have kc:∀ o,plHolds (wr.alloc o) b (off + k * 6) ⟨u0,⟨v0,m0,p0,s0,t0⟩⟩:=fun o => plHolds.alloc ⟨c0,c1,c2,c3,c4,c5⟩ hbr o
   have d0:∀ o,(wr.alloc o).cell? ⟨b,off + k * 6,none⟩=some (.bool u0):=fun o => (kc o).1
   have d1:∀ o,(wr.alloc o).cell? ⟨b,off + k * 6 + 1,none⟩=some (.int .i64 v0):=fun o => (kc o).2.1
   have d2:∀ o,(wr.alloc o).cell? ⟨b,off + k * 6 + 2,none⟩=some (.int .u64 (m0:Int)):=fun o => (kc o).2.2.1
   have d3:∀ o,(wr.alloc o).cell? ⟨b,off + k * 6 + 3,none⟩=some (.int .i64 p0):=fun o => (kc o).2.2.2.1
   have d4:∀ o,(wr.alloc o).cell? ⟨b,off + k * 6 + 4,none⟩=some (.bool s0):=fun o => (kc o).2.2.2.2.1
   have d5:∀ o,(wr.alloc o).cell? ⟨b,off + k * 6 + 5,none⟩=some (.int .u32 (t0:Int)):=fun o => (kc o).2.2.2.2.2
   clear kc
   by_cases hne:u0=u1
   ·subst hne
    by_cases hne:v0=v1
    ·subst hne
     by_cases hne:m0=m1
     ·subst hne
      by_cases hne:p0=p1
      ·subst hne
       by_cases hne:s0=s1
       ·subst hne
        by_cases hne:t0=t1
        ·subst hne
         go_wp2_with fail
         go_quiet (fail)
         go_wp2
         go_roundw
         case rel =>
          refine ⟨k + 1,_,rfl,by clear y1 y2 y3 y4 y5 y6; omega,by go_num,?_,HB.out.trans (below_drewN ((Below.refl _ _).alloc (Nat.le_refl _) _) _ |>.mono HB.out.size)⟩
          have e9:chgL a0 f g (k + 1)=chgL a0 f g k:=(by first | exact (HS.out rfl).trans HL.out | exact (HS.out trivial).trans HL.out)
          rw [e9,HNL.out,← HL.out]
          exact own_below HO.out (below_drewN ((Below.refl _ _).alloc (Nat.le_refl _) _) _)
         case measure => simp [intOf]; clear y1 y2 y3 y4 y5 y6; omega
        ·have n1:¬ (t1:Int)=(t0:Int):=by clear y1 y2 y3 y4 y5 y6; omega
         have n2:=beqN_no (show t1 ≠ t0 from fun h => hne h.symm)
         have HD9:=Lib.hid (HD.out (by intro h; injection h with h9 h8; injection h8 with _ _ _ _ h7; exact absurd h7 hne))
         go_wp2_with fail
         go_quiet (fail)
         go_wp2_with fail
         refine (HW.out _).mono ?_
         rintro e w2 ⟨rfl,hb2⟩
         have HB2:Hid (Below wr.heap.size wr w2):=(below_drewN ((Below.refl _ _).alloc (Nat.le_refl _) _) _).trans (hb2.mono (by show _≤(wr.alloc _).heap.size; simp))
         have HO2:=Lib.hid (own_below HO.out HB2.out)
         have hz9:=HB2.out.size
         clear hb2
         go_wp2_with (first
          | (at_builtin; refine wpList_app _ rfl stWrites (.tmp 36) (.tmp 44) rfl w.heap.size u7 N _ rfl (own_below HO2.out ((Below.refl _ _).alloc (Nat.le_refl _) (.cells #[.int .i64 (AT:Nat),.int .u64 wa,.int .i64 (AT1:Nat),.int .u64 wb] 132))) (w2.heap.size + 1) _ 2 [.int .i64 (AT:Nat),.int .u64 wa,.int .i64 (AT1:Nat),.int .u64 wb] rfl (Sl.litW w2 #[.int .i64 (AT:Nat),.int .u64 wa,.int .i64 (AT1:Nat),.int .u64 wb] _ 2 2 rfl (by decide)) (by simp [Value.oneCell']) (by clear y1 y2 y3 y4 y5 y6; omega) (by simp; clear y1 y2 y3 y4 y5 y6; omega) ?_; intro v2 w3 hown2 hgr2 hat2 hbel2)
          | fail)
         have HO3:=Lib.hid hown2
         have HB3:Hid (Below w.heap.size w w3):=((HB.out.trans (HB2.out.mono HB.out.size)).alloc (Nat.le_trans HB.out.size hz9) _).trans hbel2
         clear hown2 hgr2 hat2 hbel2
         go_wp2
         go_roundw
         case rel =>
          refine ⟨k + 1,_,rfl,by clear y1 y2 y3 y4 y5 y6; omega,by go_num,?_,HB3.out⟩
          have e8:(l ++ [(AT,wa),(AT1,wb)]).length=N + 2:=by rw [List.length_append,HL.out,HNL.out]; rfl
          rw [HD9.out,e8,wrc_append]
          exact HO3.out
         case measure => simp [intOf]; clear y1 y2 y3 y4 y5 y6; omega
       ·have n1:¬ s1=s0:=fun h => hne h.symm
        have n2:(s1 == s0)=false:=by simpa using n1
        have HD9:=Lib.hid (HD.out (by intro h; injection h with h9 h8; injection h8 with _ _ _ h7 _; exact absurd h7 hne))
        go_wp2_with fail
        go_quiet (fail)
        go_wp2_with fail
        refine (HW.out _).mono ?_
        rintro e w2 ⟨rfl,hb2⟩
        have HB2:Hid (Below wr.heap.size wr w2):=(below_drewN ((Below.refl _ _).alloc (Nat.le_refl _) _) _).trans (hb2.mono (by show _≤(wr.alloc _).heap.size; simp))
        have HO2:=Lib.hid (own_below HO.out HB2.out)
        have hz9:=HB2.out.size
        clear hb2
        go_wp2_with (first
         | (at_builtin; refine wpList_app _ rfl stWrites (.tmp 36) (.tmp 44) rfl w.heap.size u7 N _ rfl (own_below HO2.out ((Below.refl _ _).alloc (Nat.le_refl _) (.cells #[.int .i64 (AT:Nat),.int .u64 wa,.int .i64 (AT1:Nat),.int .u64 wb] 132))) (w2.heap.size + 1) _ 2 [.int .i64 (AT:Nat),.int .u64 wa,.int .i64 (AT1:Nat),.int .u64 wb] rfl (Sl.litW w2 #[.int .i64 (AT:Nat),.int .u64 wa,.int .i64 (AT1:Nat),.int .u64 wb] _ 2 2 rfl (by decide)) (by simp [Value.oneCell']) (by clear y1 y2 y3 y4 y5 y6; omega) (by simp; clear y1 y2 y3 y4 y5 y6; omega) ?_; intro v2 w3 hown2 hgr2 hat2 hbel2)
         | fail)
        have HO3:=Lib.hid hown2
        have HB3:Hid (Below w.heap.size w w3):=((HB.out.trans (HB2.out.mono HB.out.size)).alloc (Nat.le_trans HB.out.size hz9) _).trans hbel2
        clear hown2 hgr2 hat2 hbel2
        go_wp2
        go_roundw
        case rel =>
         refine ⟨k + 1,_,rfl,by clear y1 y2 y3 y4 y5 y6; omega,by go_num,?_,HB3.out⟩
         have e8:(l ++ [(AT,wa),(AT1,wb)]).length=N + 2:=by rw [List.length_append,HL.out,HNL.out]; rfl
         rw [HD9.out,e8,wrc_append]
         exact HO3.out
        case measure => simp [intOf]; clear y1 y2 y3 y4 y5 y6; omega
      ·have n1:¬ p1=p0:=fun h => hne h.symm
       have n2:(p1 == p0)=false:=by simpa using n1
       have HD9:=Lib.hid (HD.out (by intro h; injection h with h9 h8; injection h8 with _ _ h7 _ _; exact absurd h7 hne))
       go_wp2_with fail
       go_quiet (fail)
       go_wp2_with fail
       refine (HW.out _).mono ?_
       rintro e w2 ⟨rfl,hb2⟩
       have HB2:Hid (Below wr.heap.size wr w2):=(below_drewN ((Below.refl _ _).alloc (Nat.le_refl _) _) _).trans (hb2.mono (by show _≤(wr.alloc _).heap.size; simp))
       have HO2:=Lib.hid (own_below HO.out HB2.out)
       have hz9:=HB2.out.size
       clear hb2
       go_wp2_with (first
        | (at_builtin; refine wpList_app _ rfl stWrites (.tmp 36) (.tmp 44) rfl w.heap.size u7 N _ rfl (own_below HO2.out ((Below.refl _ _).alloc (Nat.le_refl _) (.cells #[.int .i64 (AT:Nat),.int .u64 wa,.int .i64 (AT1:Nat),.int .u64 wb] 132))) (w2.heap.size + 1) _ 2 [.int .i64 (AT:Nat),.int .u64 wa,.int .i64 (AT1:Nat),.int .u64 wb] rfl (Sl.litW w2 #[.int .i64 (AT:Nat),.int .u64 wa,.int .i64 (AT1:Nat),.int .u64 wb] _ 2 2 rfl (by decide)) (by simp [Value.oneCell']) (by clear y1 y2 y3 y4 y5 y6; omega) (by simp; clear y1 y2 y3 y4 y5 y6; omega) ?_; intro v2 w3 hown2 hgr2 hat2 hbel2)
        | fail)
       have HO3:=Lib.hid hown2
       have HB3:Hid (Below w.heap.size w w3):=((HB.out.trans (HB2.out.mono HB.out.size)).alloc (Nat.le_trans HB.out.size hz9) _).trans hbel2
       clear hown2 hgr2 hat2 hbel2
       go_wp2
       go_roundw
       case rel =>
        refine ⟨k + 1,_,rfl,by clear y1 y2 y3 y4 y5 y6; omega,by go_num,?_,HB3.out⟩
        have e8:(l ++ [(AT,wa),(AT1,wb)]).length=N + 2:=by rw [List.length_append,HL.out,HNL.out]; rfl
        rw [HD9.out,e8,wrc_append]
        exact HO3.out
       case measure => simp [intOf]; clear y1 y2 y3 y4 y5 y6; omega
     ·have n1:¬ (m1:Int)=(m0:Int):=by clear y1 y2 y3 y4 y5 y6; omega
      have n2:=beqN_no (show m1 ≠ m0 from fun h => hne h.symm)
      have HD9:=Lib.hid (HD.out (by intro h; injection h with h9 h8; injection h8 with _ h7 _ _ _; exact absurd h7 hne))
      go_wp2_with fail
      go_quiet (fail)
      go_wp2_with fail
      refine (HW.out _).mono ?_
      rintro e w2 ⟨rfl,hb2⟩
      have HB2:Hid (Below wr.heap.size wr w2):=(below_drewN ((Below.refl _ _).alloc (Nat.le_refl _) _) _).trans (hb2.mono (by show _≤(wr.alloc _).heap.size; simp))
      have HO2:=Lib.hid (own_below HO.out HB2.out)
      have hz9:=HB2.out.size
      clear hb2
      go_wp2_with (first
       | (at_builtin; refine wpList_app _ rfl stWrites (.tmp 36) (.tmp 44) rfl w.heap.size u7 N _ rfl (own_below HO2.out ((Below.refl _ _).alloc (Nat.le_refl _) (.cells #[.int .i64 (AT:Nat),.int .u64 wa,.int .i64 (AT1:Nat),.int .u64 wb] 132))) (w2.heap.size + 1) _ 2 [.int .i64 (AT:Nat),.int .u64 wa,.int .i64 (AT1:Nat),.int .u64 wb] rfl (Sl.litW w2 #[.int .i64 (AT:Nat),.int .u64 wa,.int .i64 (AT1:Nat),.int .u64 wb] _ 2 2 rfl (by decide)) (by simp [Value.oneCell']) (by clear y1 y2 y3 y4 y5 y6; omega) (by simp; clear y1 y2 y3 y4 y5 y6; omega) ?_; intro v2 w3 hown2 hgr2 hat2 hbel2)
       | fail)
      have HO3:=Lib.hid hown2
      have HB3:Hid (Below w.heap.size w w3):=((HB.out.trans (HB2.out.mono HB.out.size)).alloc (Nat.le_trans HB.out.size hz9) _).trans hbel2
      clear hown2 hgr2 hat2 hbel2
      go_wp2
      go_roundw
      case rel =>
       refine ⟨k + 1,_,rfl,by clear y1 y2 y3 y4 y5 y6; omega,by go_num,?_,HB3.out⟩
       have e8:(l ++ [(AT,wa),(AT1,wb)]).length=N + 2:=by rw [List.length_append,HL.out,HNL.out]; rfl
       rw [HD9.out,e8,wrc_append]
       exact HO3.out
      case measure => simp [intOf]; clear y1 y2 y3 y4 y5 y6; omega
    ·have n1:¬ v1=v0:=fun h => hne h.symm
     have n2:(v1 == v0)=false:=by simpa using n1
     have HD9:=Lib.hid (HD.out (by intro h; injection h with h9 h8; injection h8 with h7 _ _ _ _; exact absurd h7 hne))
     go_wp2_with fail
     go_quiet (fail)
     go_wp2_with fail
     refine (HW.out _).mono ?_
     rintro e w2 ⟨rfl,hb2⟩
     have HB2:Hid (Below wr.heap.size wr w2):=(below_drewN ((Below.refl _ _).alloc (Nat.le_refl _) _) _).trans (hb2.mono (by show _≤(wr.alloc _).heap.size; simp))
     have HO2:=Lib.hid (own_below HO.out HB2.out)
     have hz9:=HB2.out.size
     clear hb2
     go_wp2_with (first
      | (at_builtin; refine wpList_app _ rfl stWrites (.tmp 36) (.tmp 44) rfl w.heap.size u7 N _ rfl (own_below HO2.out ((Below.refl _ _).alloc (Nat.le_refl _) (.cells #[.int .i64 (AT:Nat),.int .u64 wa,.int .i64 (AT1:Nat),.int .u64 wb] 132))) (w2.heap.size + 1) _ 2 [.int .i64 (AT:Nat),.int .u64 wa,.int .i64 (AT1:Nat),.int .u64 wb] rfl (Sl.litW w2 #[.int .i64 (AT:Nat),.int .u64 wa,.int .i64 (AT1:Nat),.int .u64 wb] _ 2 2 rfl (by decide)) (by simp [Value.oneCell']) (by clear y1 y2 y3 y4 y5 y6; omega) (by simp; clear y1 y2 y3 y4 y5 y6; omega) ?_; intro v2 w3 hown2 hgr2 hat2 hbel2)
      | fail)
     have HO3:=Lib.hid hown2
     have HB3:Hid (Below w.heap.size w w3):=((HB.out.trans (HB2.out.mono HB.out.size)).alloc (Nat.le_trans HB.out.size hz9) _).trans hbel2
     clear hown2 hgr2 hat2 hbel2
     go_wp2
     go_roundw
     case rel =>
      refine ⟨k + 1,_,rfl,by clear y1 y2 y3 y4 y5 y6; omega,by go_num,?_,HB3.out⟩
      have e8:(l ++ [(AT,wa),(AT1,wb)]).length=N + 2:=by rw [List.length_append,HL.out,HNL.out]; rfl
      rw [HD9.out,e8,wrc_append]
      exact HO3.out
     case measure => simp [intOf]; clear y1 y2 y3 y4 y5 y6; omega
   ·have n1:¬ u1=u0:=fun h => hne h.symm
    have n2:(u1 == u0)=false:=by simpa using n1
    have HD9:=Lib.hid (HD.out (by intro h; injection h with h9 h8; exact absurd h9 hne))
    go_wp2_with fail
    go_quiet (fail)
    go_wp2_with fail
    refine (HW.out _).mono ?_
    rintro e w2 ⟨rfl,hb2⟩
    have HB2:Hid (Below wr.heap.size wr w2):=(below_drewN ((Below.refl _ _).alloc (Nat.le_refl _) _) _).trans (hb2.mono (by show _≤(wr.alloc _).heap.size; simp))
    have HO2:=Lib.hid (own_below HO.out HB2.out)
    have hz9:=HB2.out.size
    clear hb2
    go_wp2_with (first
     | (at_builtin; refine wpList_app _ rfl stWrites (.tmp 36) (.tmp 44) rfl w.heap.size u7 N _ rfl (own_below HO2.out ((Below.refl _ _).alloc (Nat.le_refl _) (.cells #[.int .i64 (AT:Nat),.int .u64 wa,.int .i64 (AT1:Nat),.int .u64 wb] 132))) (w2.heap.size + 1) _ 2 [.int .i64 (AT:Nat),.int .u64 wa,.int .i64 (AT1:Nat),.int .u64 wb] rfl (Sl.litW w2 #[.int .i64 (AT:Nat),.int .u64 wa,.int .i64 (AT1:Nat),.int .u64 wb] _ 2 2 rfl (by decide)) (by simp [Value.oneCell']) (by clear y1 y2 y3 y4 y5 y6; omega) (by simp; clear y1 y2 y3 y4 y5 y6; omega) ?_; intro v2 w3 hown2 hgr2 hat2 hbel2)
     | fail)
    have HO3:=Lib.hid hown2
    have HB3:Hid (Below w.heap.size w w3):=((HB.out.trans (HB2.out.mono HB.out.size)).alloc (Nat.le_trans HB.out.size hz9) _).trans hbel2
    clear hown2 hgr2 hat2 hbel2
    go_wp2
    go_roundw
    case rel =>
     refine ⟨k + 1,_,rfl,by clear y1 y2 y3 y4 y5 y6; omega,by go_num,?_,HB3.out⟩
     have e8:(l ++ [(AT,wa),(AT1,wb)]).length=N + 2:=by rw [List.length_append,HL.out,HNL.out]; rfl
     rw [HD9.out,e8,wrc_append]
     exact HO3.out
    case measure => simp [intOf]; clear y1 y2 y3 y4 y5 y6; omega
  ·have:k=n:=by omega
   subst this
   go_wp2
   go_ret
   exact ⟨_,rfl,HO.out,HB.out⟩
end
end Go.Proofs.Ythloabdfkakehaa
