/-
  Words and contracts that a statement's proof rests on (MoV, MoD). No statement is proved here.
-/
import Derived.Deep.RegionHeld3
import Derived.Test.YtfekhdgjgjodlaaVlanD
import Derived.Test.YtfekhdgjgjodlaaPlainPt
set_option linter.unusedVariables false
set_option linter.unusedSimpArgs false
namespace Go.Proofs.Ytfekhdgjgjodlaa
section
open Go.RowKit
theorem Sl.litN (w:World) (cs:Array Value) (e:TypeId) (n size:Nat) (hs:cs.size=n * size) (hm:n≤maxLen):Sl (w.alloc (.cells cs e)) (w.heap.size + 1) size (.slice (some ⟨w.heap.size,0,none⟩) n n) n cs.toList:=by
 refine ⟨by simpa using hs,_,n,rfl,Nat.le_refl _,hm,fun _ => ⟨w.heap.size,0,rfl,by omega,fun j hj => ?_⟩⟩
 simp [go_sem]
theorem keep3 {w w':World} {b o1 o2 o3:Nat} {v1 v2 v3:Value} (h:w.cell? ⟨b,o1,none⟩=some v1∧w.cell? ⟨b,o2,none⟩=some v2∧w.cell? ⟨b,o3,none⟩=some v3) (hk:∀ p:Addr,p.block=b→w'.cell? p=w.cell? p) :
  w'.cell? ⟨b,o1,none⟩=some v1∧w'.cell? ⟨b,o2,none⟩=some v2∧w'.cell? ⟨b,o3,none⟩=some v3 :=
 ⟨(hk _ rfl).trans h.1,(hk _ rfl).trans h.2.1,(hk _ rfl).trans h.2.2⟩
theorem stVlans:ST Try.prog 50 90 (.agg #[.int .i64 0,.int .u64 0,.int .u64 0]) 3 24:=ST.mk Try.underlying50 (by kernel_rfl) rfl (by omega) (by omega)
theorem stVls3:ST Try.prog 57 77 (.agg #[.int .i64 0,.int .u64 0,.int .u64 0]) 3 24:=ST.mk Try.underlying57 (by kernel_rfl) rfl (by omega) (by omega)
set_option maxHeartbeats 1600000 in
theorem law3_To {l:List Vl} {n:Nat} {v:Value} {w:World} {B:Nat} (hn:n≤20) (hv:Sl w B 3 v n (vlc l)) (hB:B≤w.heap.size) :
  Calls Try.prog 19 #[v] w fun e w' => ∃ u,e=.returned u∧w'.ownsRow w.heap.size 90 3 u n (vlc l)∧Below w.heap.size w w':=by
 by_cases hn0:0 < n
 ·obtain ⟨b,off,cap,rfl,hcap,hmx,hb,hlen,hcell⟩:=hv.vlAt hn0
  unfold maxLen at hmx
  have HC:=Lib.hid hcell
  have HL:=Lib.hid hlen
  clear hv hcell hlen
  go_enter Try.func19,Try.ntmps19
  go_wp2
  go_loopw [3,4] (fun o i wr => ∃ k:Nat,k≤n∧i=.int .i64 k∧Hid (wr.ownsRow w.heap.size 90 3 o k (vlc (l.take k)))∧Hid (Below w.heap.size w wr)) (fun _ i _ => n - (intOf i).toNat)
  case atStart => exact ⟨0,by omega,rfl,⟨by simp [vlc],.inl ⟨rfl,rfl⟩⟩,Below.refl _ _⟩
  case round =>
   rename_i o _ _
   obtain ⟨k,hk,rfl,HO,HBW⟩:=hrel
   rename_i wr _
   by_cases hlt:k < n
   ·obtain ⟨c0,c1,c2⟩:=HC.out k hlt
    have hbw:=(bcell HBW.out).1
    have e0:=(hbw b (off + k * 3) (by omega)).trans c0
    have e1:=(hbw b (off + k * 3 + 1) (by omega)).trans c1
    have e2:=(hbw b (off + k * 3 + 2) (by omega)).trans c2
    obtain ⟨x,hx⟩:∃ x,x=l.getD k vl0:=⟨_,rfl⟩
    rw [← hx] at e0 e1 e2
    have HX:Hid (vlc (l.take k) ++ [.int .i64 x.vid,.int .u64 (x.mem:Nat),.int .u64 (x.unt:Nat)]=vlc (l.take (k + 1))):=by
     have hkl:k < l.length:=by have:=HL.out; omega
     show _=_
     rw [List.take_succ_eq_append_getElem hkl,vlc_append,hx]
     simp [vlc,Vl.cells,List.getD_eq_getElem?_getD,List.getElem?_eq_getElem hkl]
    have g0:(0:Int)≤(k:Int):=Int.natCast_nonneg _
    have g1:(k:Int) < (n:Int):=by omega
    have hzw:=HBW.out.size
    clear hbw c0 c1 c2 hx HC
    go_wp2
    have hbr:b < wr.heap.size:=by omega
    have hbw:b < w.heap.size:=by omega
    go_region_held3 (fun w' => w'.cell? ⟨b,off + k * 3,none⟩=some (.int .i64 x.vid)∧w'.cell? ⟨b,off + k * 3 + 1,none⟩=some (.int .u64 (x.mem:Nat))∧w'.cell? ⟨b,off + k * 3 + 2,none⟩=some (.int .u64 (x.unt:Nat)))
     (first | (with_reducible exact keep3 (by assumption) (fun p hp => hbel2.cell (by rw [hp]; exact hbw))) | (with_reducible exact keep3 (by assumption) (fun p hp => World.cell?_alloc_lt _ _ _ (by rw [hp]; exact hbr))) | go_keep)
     ((refine step_app _ (by rfl) stVlans _ _ (by rfl) w.heap.size u3 k _ (by rfl) ((HO.out.alloc _).drew) (wr.heap.size + 1) _ 1 [.int .i64 x.vid,.int .u64 (x.mem:Nat),.int .u64 (x.unt:Nat)] (by rfl) ((Sl.litN wr #[.int .i64 x.vid,.int .u64 (x.mem:Nat),.int .u64 (x.unt:Nat)] _ 1 3 rfl (by decide)).drew) (by simp [Value.oneCell']) (by omega) (by simp; omega) ?_; intro v2 w2 hown2 hgr2 hat2 hbel2))
    all_goals
     rw [HX.out] at hown2
     have HO2:=Lib.hid hown2
     have HB2:=Lib.hid ((HBW.out.alloc hzw (.cells #[.int .i64 x.vid,.int .u64 (x.mem:Nat),.int .u64 (x.unt:Nat)] 90)).drew.trans hbel2)
     clear hown2 hgr2 hat2 hbel2
     go_wp2
     go_roundw
     case rel => exact ⟨k + 1,by omega,by go_num,HO2.out,HB2.out⟩
     case measure => simp [intOf]; omega
   ·have:k=n:=by omega
    subst this
    go_wp2
    go_ret
    refine ⟨_,rfl,?_,HBW.out⟩
    have:=HO.out
    rw [List.take_of_length_le (by have:=HL.out; omega)] at this
    exact this
 ·obtain rfl:n=0:=by omega
  have hl:l=[]:=List.eq_nil_of_length_eq_zero hv.vlLen
  subst hl
  obtain ⟨A,cap,rfl,hcap,hmx⟩:=hv.form
  clear hv hn0
  go_enter Try.func19,Try.ntmps19
  go_wp2
  go_loopw [3,4] (fun o i wr => i=.int .i64 0∧o=.slice none 0 0∧wr=w) (fun _ _ _ => 0)
  case atStart => exact ⟨rfl,rfl,rfl⟩
  case round =>
   obtain ⟨rfl,rfl,rfl⟩:=hrel
   go_wp2
   go_ret
   exact ⟨_,rfl,World.ownsRow_nil _ _ _ _,Below.refl _ _⟩
end
section
open Go.RowKit
set_option maxRecDepth 20000 in
set_option maxHeartbeats 3200000 in
theorem clone_vlans {w:World} {B n:Nat} {v:Value} {xs:List Value} (hn:n≤1000000) (hv:Sl w B 3 v n xs) (hone:∀ u ∈ xs,u.oneCell'=true) (hB:B≤w.heap.size) :
  Calls Try.prog 48 #[v] w fun e w' => ∃ u,e=.returned u∧w'.ownsRow w.heap.size 90 3 u n xs∧Below w.heap.size w w':=by
 have HS:=Lib.hid hv
 obtain ⟨A,cap,rfl,h1,h2⟩:=hv.form
 have HONE:=Lib.hid hone
 cases A with
 | none =>
  have hn0:n=0:=by
   rcases Nat.eq_zero_or_pos n with h | h
   ·exact h
   ·obtain ⟨b,off,c,e,_⟩:=hv.at_ h
    cases e
  subst hn0
  have hx:xs=[]:=by have:=hv.len; simpa using this
  subst hx
  clear hv h1 h2 HS HONE hone
  have hnil:=fun (W:World) => Lib.run_eql_slice_nil (P:=Try.prog) W 50 90 none 0 cap 0 0 Try.underlying50
  go_enter Try.func48,Try.ntmps48
  go_wp2_with fail
  go_ret
  exact ⟨_,rfl,⟨by simp,.inl (by simp)⟩,Below.refl _ _⟩
 | some a =>
  clear hv h2 hone
  have hnil:=fun (W:World) => Lib.run_eql_slice_nil (P:=Try.prog) W 50 90 (some a) n cap 0 0 Try.underlying50
  go_enter Try.func48,Try.ntmps48
  go_wp2_with (first
   | (at_builtin; refine wpList_apv _ rfl stVlans _ _ rfl w.heap.size (.slice (some ⟨w.heap.size,0,none⟩) 0 0) 0 [] rfl ⟨by simp,.inr ⟨w.heap.size,0,#[],rfl,Nat.le_refl _,heap_alloc_new w _,Nat.le_refl _,by simp [maxLen],by simp,by simp⟩⟩ B _ n xs rfl (HS.out.below (by (repeat' (first | (with_reducible exact Below.refl _ _) | (with_reducible refine Below.alloc ?_ ?_ _) | go_size)))) HONE.out (by omega) (by go_size) ?_; intro A2 c2 w9 hown2 hgr2 hat2 hbel2; clear hgr2 hat2))
  have HO0:w9.ownsRow w.heap.size 90 3 (.slice A2 n c2) n xs:=by simpa using hown2
  have HO:=Lib.hid HO0
  clear HO0
  have HB9:Hid (Below w.heap.size w w9):=Below.trans ((Below.refl _ _).alloc (Nat.le_refl _) _) hbel2
  clear hown2 hbel2
  go_wp2
  go_ret
  exact ⟨_,by first | rfl | (simp; done),HO.out,HB9.out⟩
end
end Go.Proofs.Ytfekhdgjgjodlaa
