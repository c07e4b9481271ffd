/-
  Words and contracts that a statement's proof rests on (Words, Row, SlotB, KeyC, SlotC, BuN, TicksB, BuQ). No statement is proved here.
-/
import Derived.Deep.OwnRows
import Derived.IntWalk
import Derived.Deep.RegionHeld3
import Derived.Test.YtpcapdpglpgcbaaGreatMac
import Derived.Test.YtpcapdpglpgcbaaGreatKeep
import Derived.Test.YtpcapdpglpgcbaaGreatBuC
import Derived.Test.YtpcapdpglpgcbaaGreatKeyB
import Derived.Test.YtpcapdpglpgcbaaGreatBuH
import Derived.Test.YtpcapdpglpgcbaaGreatBuI
import Derived.Test.YtpcapdpglpgcbaaGreatPtB
set_option linter.unusedVariables false
set_option linter.unusedSimpArgs false
namespace Go.Proofs.YtpcapdpglpgcbaaGreat
section
open Go.RowKit Go.WideShapes Go.ChangeShapes
def kv (k:IntKind) (l:List Int):List Value:=l.map fun n => .int k n
def uv (l:List Nat):List Value:=l.map fun (n:Nat) => .int .u32 (n:Int)
theorem kv_length (k:IntKind) (l:List Int):(kv k l).length=l.length:=by simp [kv]
section
variable {H:Type} {enc:TypeId × Value→H} {P:Program} {w:World} {held:Bool}
end
end
section
open Go.RowKit
theorem rowIs_mk {w:World} {g M:Nat} {z:Value} {e:TypeId} (hz:z.cells=#[z]) (hg:w.heap.size=g):(w.alloc (.cells (mkC z 1 M) e)).rowIs g e M (fun _ => z):=by
 subst hg
 unfold mkC
 rw [hz,Nat.mul_one]
 exact World.rowIs_made w z M e
theorem rowIs_own {w:World} {B g M:Nat} {e:TypeId} {f:Nat→Value} (h:w.rowIs g e M f) (hB:B≤g) (hM:M≤maxLen):w.ownsRow B e 1 (.slice (some ⟨g,0,none⟩) M M) M ((List.range M).map f):=by
 obtain ⟨cs,h1,h2,h3⟩:=h
 refine own_full h1 hB h2 hM ?_
 apply List.ext_getElem
 ·simp [h2]
 ·intro i hi1 hi2
  simp at hi1 hi2
  have:=h3 i (by omega)
  rw [Array.getElem?_eq_getElem hi1] at this
  simp at this
  simp [this]
def Ints (l:List Int) (w:World) (e:Ending) (w':World):Prop :=
 ∃ A cap,e=.returned (.slice A l.length cap)∧Sl w' w'.heap.size 1 (.slice A l.length cap) l.length (kv .i64 l)∧Below w.heap.size w w'
theorem Ints.nil (w w':World) (h:Below w.heap.size w w'):Ints [] w (.returned (.slice none 0 0)) w':=⟨none,0,rfl,by simpa [kv] using Sl.nil _ _ _,h⟩
theorem Ints.row {w w':World} {g M:Nat} {e:TypeId} {f:Nat→Int} {l:List Int} (h:w'.rowIs g e M (fun j => .int .i64 (f j))) (hl:l=(List.range M).map f) (hM:M≤maxLen) (hb:Below w.heap.size w w') :
  Ints l w (.returned (.slice (some ⟨g,0,none⟩) M M)) w':=by
 have hlen:l.length=M:=by rw [hl]; simp
 refine ⟨some ⟨g,0,none⟩,M,by rw [hlen],?_,hb⟩
 rw [hlen]
 have:=Sl.of_own (rowIs_own h (Nat.zero_le _) hM)
 rw [hl]
 unfold kv
 rw [List.map_map]
 exact this
theorem kv_getElem? (κ:IntKind) (l:List Int) (k:Nat) (h:k < l.length):(kv κ l)[k]?=some (.int κ (l.getD k 0)):=by
 simp [kv,List.getD_eq_getElem?_getD,List.getElem?_eq_getElem h]
set_option maxHeartbeats 800000 in
theorem law3_IntsEq {l:List Int} {n:Nat} {u v:Value} {w:World} {B B':Nat} (hu:Sl w B 1 u n (kv .i64 l)) (hv:Sl w B' 1 v n (kv .i64 l)) :
  Calls Tryz.prog 56 #[u,v] w (Quiet (.bool true) w):=by
 have hlen:l.length=n:=by have:=hu.len; rw [kv_length] at this; omega
 obtain ⟨_,A,cap,rfl,hA1,hA2,hA⟩:=hu
 obtain ⟨_,A',cap',rfl,hA1',hA2',hA'⟩:=hv
 unfold maxLen at hA2 hA2'
 have hne:((n:Int) != (n:Int))=false:=by simp
 have HL:=Lib.hid hlen
 have HA:=Lib.hid hA
 have HA':=Lib.hid hA'
 clear hlen hA hA'
 go_enter Tryz.func56,Tryz.ntmps56
 go_wp2
 go_loopw [5] (fun i wr => ∃ k:Nat,k≤n∧i=.int .i64 k∧∃ m,wr=w.drewN m) (fun i _ => n - (intOf i).toNat)
 case atStart => exact ⟨0,by omega,rfl,0,rfl⟩
 case round =>
  obtain ⟨k,hk,rfl,m,rfl⟩:=hrel
  by_cases hlt:k < n
  ·obtain ⟨b,off,rfl,_,hc⟩:=HA.out (by omega)
   obtain ⟨b',off',rfl,_,hc'⟩:=HA'.out (by omega)
   have hx:=kv_getElem? .i64 l k (by have:=HL.out; omega)
   have hcell:=(hc k (by omega)).trans hx
   have hcell':=(hc' k (by omega)).trans hx
   clear hc hc' HA HA' hx
   have g0:(0:Int)≤(k:Int):=Int.natCast_nonneg _
   have g1:(k:Int) < (n:Int):=by omega
   generalize l.getD k 0=x at *
   go_wp2_with fail
   go_quiet (fail)
   go_wp2
   go_roundw
   case rel => exact ⟨k + 1,by omega,by go_num,_,(by first | rfl | exact World.drewN_drewN _ _ _)⟩
   case measure => simp [intOf]; omega
  ·have:k=n:=by omega
   subst this
   go_wp2
   go_ret
   exact ⟨rfl,_,rfl⟩
end
section
open Go.RowKit
end
section
open Go.RowKit
set_option maxHeartbeats 400000 in
theorem law8_To (v m:Int) (w:World) :
  Calls Tryz.prog 43 #[.agg #[.int .i64 v,.int .u64 m]] w (Says (.agg #[.int .i64 v,.int .u64 m]) w):=by
 go_enter Tryz.func43,Tryz.ntmps43
 go_wp2
 exact bodyPost_ret (v:=.agg #[.int .i64 v,.int .u64 m]) (by simp [results,Tryz.results43,go_sem]) rfl ⟨rfl,(by (repeat' (first | (with_reducible exact Below.refl _ _) | (with_reducible assumption) | (with_reducible refine Below.setCell ?_ ?_ _) | (with_reducible refine Below.alloc ?_ ?_ _) | go_size)))⟩
set_option maxHeartbeats 400000 in
theorem law8_From (v m:Int) (w:World) :
  Calls Tryz.prog 101 #[.agg #[.int .i64 v,.int .u64 m]] w (Says (.agg #[.int .i64 v,.int .u64 m]) w):=by
 go_enter Tryz.func101,Tryz.ntmps101
 go_wp2
 exact bodyPost_ret (v:=.agg #[.int .i64 v,.int .u64 m]) (by simp [results,Tryz.results101,go_sem]) rfl ⟨rfl,(by (repeat' (first | (with_reducible exact Below.refl _ _) | (with_reducible assumption) | (with_reducible refine Below.setCell ?_ ?_ _) | (with_reducible refine Below.alloc ?_ ?_ _) | go_size)))⟩
end
section
open Go.RowKit
theorem two_blocks' (w:World) (cs1 cs2:Array Value) (t1 t2:TypeId) :
  ∃ W,W=(w.alloc (.cells cs1 t1)).alloc (.cells cs2 t2)∧W.heap.size=w.heap.size + 2∧Below w.heap.size w W∧(∀ o v,cs1[o]?=some v→W.cell? ⟨w.heap.size,o,none⟩=some v)∧W.heap[w.heap.size + 1]?=some (.cells cs2 t2):=by
 refine ⟨_,rfl,by simp,((Below.refl _ _).alloc (Nat.le_refl _) _).alloc (by simp) _,?_,?_⟩
 ·intro o v h
  rw [World.cell?_alloc_lt _ _ _ (by simp),World.cell?_alloc_new]
  exact h
 ·have:=heap_alloc_new (w.alloc (.cells cs1 t1)) (.cells cs2 t2)
  simpa using this
theorem tgt_on' {W:World} {g:Nat} {cs:Array Value} {t:TypeId} (h:W.heap[g]?=some (.cells cs t)) (i:Nat) (v:Value) (hv:cs[i]?=some v):W.cell? ⟨g,i,none⟩=some v:=by
 simp [World.cell?,h,hv]
theorem tgt_free' {W:World} {g:Nat} {cs:Array Value} {t:TypeId} (h:W.heap[g]?=some (.cells cs t)) (i:Nat):W.frozen? ⟨g,i,none⟩=false:=by
 simp [World.frozen?,h]
theorem blank5 {W:World} {g:Nat} {t:TypeId} (h:W.heap[g]?=some (.cells #[.int .i64 0,.int .u64 0,.int .i64 0,.bool false,.int .u32 0] t)) :
  W.cell? ⟨g,0,none⟩=some (.int .i64 0)∧W.cell? ⟨g,1,none⟩=some (.int .u64 0)∧W.cell? ⟨g,2,none⟩=some (.int .i64 0)∧W.cell? ⟨g,3,none⟩=some (.bool false)∧W.cell? ⟨g,4,none⟩=some (.int .u32 0) ∧
  W.frozen? ⟨g,0,none⟩=false∧W.frozen? ⟨g,1,none⟩=false∧W.frozen? ⟨g,2,none⟩=false∧W.frozen? ⟨g,3,none⟩=false∧W.frozen? ⟨g,4,none⟩=false :=
 ⟨tgt_on' h 0 _ rfl,tgt_on' h 1 _ rfl,tgt_on' h 2 _ rfl,tgt_on' h 3 _ rfl,tgt_on' h 4 _ rfl,tgt_free' h 0,tgt_free' h 1,tgt_free' h 2,tgt_free' h 3,tgt_free' h 4⟩
theorem far5 {w:World} {b g:Nat} {u0 u1 u2 u3 u4:Value} {p:Addr} (hp:p.block=b) (hg:b ≠ g) :
  (((((w.setCell ⟨g,0,none⟩ u0).setCell ⟨g,1,none⟩ u1).setCell ⟨g,2,none⟩ u2).setCell ⟨g,3,none⟩ u3).setCell ⟨g,4,none⟩ u4).cell? p=w.cell? p:=by
 have h:∀ (W:World) (i:Nat) (u:Value),(W.setCell ⟨g,i,none⟩ u).cell? p=W.cell? p:=fun W i u => World.cell?_setCell_other W _ _ _ (by intro e; rw [← e] at hp; exact hg hp.symm)
 rw [h,h,h,h,h]
set_option maxHeartbeats 1600000 in
theorem law9_From (v m p:Int) (st:Bool) (s:Int) (w:World) :
  Calls Tryz.prog 61 #[.agg #[.int .i64 v,.int .u64 m,.int .i64 p,.bool st,.int .u32 s]] w (Says (.agg #[.int .i64 v,.int .u64 m,.int .i64 p,.bool st,.int .u32 s]) w):=by
 have HT:=Lib.hid fun W => law8_From v m W
 go_enter Tryz.func61,Tryz.ntmps61
 go_wp2_with fail
 obtain ⟨w0,hw0,hz0,hb0,hc0,ht0⟩:=two_blocks' w #[.int .i64 v,.int .u64 m,.int .i64 p,.bool st,.int .u32 s] #[.int .i64 0,.int .u64 0,.int .i64 0,.bool false,.int .u32 0] 142 139
 rw [← hw0]
 have r0:w0.cell? ⟨w.heap.size,0,none⟩=some (.int .i64 v):=hc0 0 _ rfl
 have r1:w0.cell? ⟨w.heap.size,1,none⟩=some (.int .u64 m):=hc0 1 _ rfl
 have r2:w0.cell? ⟨w.heap.size,2,none⟩=some (.int .i64 p):=hc0 2 _ rfl
 have r3:w0.cell? ⟨w.heap.size,3,none⟩=some (.bool st):=hc0 3 _ rfl
 have r4:w0.cell? ⟨w.heap.size,4,none⟩=some (.int .u32 s):=hc0 4 _ rfl
 have HB0:=Lib.hid hb0
 clear hw0 hc0 hb0
 go_region_held3 (fun w' => w'.cell? ⟨w.heap.size,0,none⟩=some (.int .i64 v)∧w'.cell? ⟨w.heap.size,1,none⟩=some (.int .u64 m)∧w'.cell? ⟨w.heap.size,2,none⟩=some (.int .i64 p)∧w'.cell? ⟨w.heap.size,3,none⟩=some (.bool st)∧w'.cell? ⟨w.heap.size,4,none⟩=some (.int .u32 s))
  (first | (with_reducible exact ⟨r0,r1,r2,r3,r4⟩) | (with_reducible exact kp5 (by assumption) (fun p hp => hb.cell (by rw [hp]; go_size))) | (with_reducible exact kp5 (by assumption) (fun p hp => far5 hp (by omega))) | go_keep)
  ((go_at_call 101; (with_reducible refine Calls.mono (HT.out _) ?_); rintro e w2 ⟨rfl,hb⟩; have qb:=(hb.block (w.heap.size + 1) (by go_size)).trans ht0; obtain ⟨k0,k1,k2,k3,k4,g0,g1,g2,g3,g4⟩:=blank5 qb; have hB2:Below w.heap.size w w2:=Below.trans HB0.out.drew (hb.mono (by go_size)); have hz2:w.heap.size + 2≤w2.heap.size:=(by have:=hb.size; (try simp at this); omega); clear qb))
 all_goals
  go_wp2
  exact bodyPost_ret (v:=.agg #[.int .i64 v,.int .u64 m,.int .i64 p,.bool st,.int .u32 s]) (by simp [results,Tryz.results61,go_sem,k0,k1,k2,k3,k4]) rfl ⟨rfl,(by (repeat' (first | (with_reducible exact Below.refl _ _) | (with_reducible assumption) | (with_reducible refine Below.setCell ?_ ?_ _) | (with_reducible refine Below.alloc ?_ ?_ _) | (with_reducible refine below_drewN ?_ _) | (with_reducible refine Below.drew ?_) | go_size)))⟩
end
section
open Go.RowKit
set_option maxHeartbeats 3200000 in
theorem law10_From {f:Nat→Pl} {n:Nat} {y:Value} {w:World} {B:Nat} (hn:n≤1000000) (hv:PlRow w B y n f) (hB:B≤w.heap.size) :
  Calls Tryz.prog 58 #[y] w (Gives 176 n f id w):=by
 obtain ⟨A,cap,rfl,h1,h2,h3⟩:=hv
 have HC:=Lib.hid h3
 have HCAP:=Lib.hid h1
 unfold maxLen at h2
 clear h3
 go_enter Tryz.func58,Tryz.ntmps58
 go_wp2
 go_loopw [3,4] (fun out i wr => ∃ k:Nat,k≤n∧i=.int .i64 k∧Hid (wr.ownsRow w.heap.size 176 6 out k (plc (listP f k)))∧Hid (Below w.heap.size w wr)) (fun _ i _ => n - (intOf i).toNat)
 case atStart => exact ⟨0,by omega,rfl,⟨by simp [plc,listP],.inl ⟨rfl,rfl⟩⟩,Below.refl _ _⟩
 case round =>
  obtain ⟨k,hk,rfl,HO,HB⟩:=hrel
  have hzw:=HB.out.size
  by_cases hlt:k < n
  ·obtain ⟨b,off,rfl,hb,hc⟩:=HC.out (by omega)
   have g0:(0:Int)≤(k:Int):=Int.natCast_nonneg _
   have g1:(k:Int) < (n:Int):=by omega
   have hcx:=(hc k hlt).keep (w':=wr) fun p hp => HB.out.cell (by rw [hp]; omega)
   have HX:Hid (∀ x,f k=x→plc (listP f (k + 1))=plc (listP f k) ++ x.cells):=fun x hx => by
    rw [listP_succ,plc_append,plc_one1,← hx]
   obtain ⟨x,hx⟩:∃ x,x=f k:=⟨_,rfl⟩
   rw [← hx] at hcx HX
   have HX:=Lib.hid (HX.out x rfl)
   clear hx
   obtain ⟨u,⟨a,q,p,st,s⟩⟩:=x
   obtain ⟨c0',c1',c2',c3',c4',c5'⟩:=hcx
   have c0:wr.cell? ⟨b,off + k * 6,none⟩=some (.bool u):=c0'
   have c1:wr.cell? ⟨b,off + k * 6 + 1,none⟩=some (.int .i64 a):=c1'
   have c2:wr.cell? ⟨b,off + k * 6 + 2,none⟩=some (.int .u64 (q:Int)):=c2'
   have c3:wr.cell? ⟨b,off + k * 6 + 3,none⟩=some (.int .i64 p):=c3'
   have c4:wr.cell? ⟨b,off + k * 6 + 4,none⟩=some (.bool st):=c4'
   have c5:wr.cell? ⟨b,off + k * 6 + 5,none⟩=some (.int .u32 (s:Int)):=c5'
   clear c0' c1' c2' c3' c4' c5'
   have hbr:b < wr.heap.size:=by omega
   have hbw:b < w.heap.size:=by omega
   have HTO:=Lib.hid fun W => law9_From a (q:Int) p st (s:Int) W
   clear hc HC
   go_wp2_with fail
   refine wp_region_held_drew (S:=fun w' => w'.cell? ⟨b,off + k * 6,none⟩=some (.bool u)∧w'.cell? ⟨b,off + k * 6 + 1,none⟩=some (.int .i64 a)∧w'.cell? ⟨b,off + k * 6 + 2,none⟩=some (.int .u64 (q:Int))∧w'.cell? ⟨b,off + k * 6 + 3,none⟩=some (.int .i64 p)∧w'.cell? ⟨b,off + k * 6 + 4,none⟩=some (.bool st)∧w'.cell? ⟨b,off + k * 6 + 5,none⟩=some (.int .u32 (s:Int))) (by kernel_rfl) ?_ (fun hHeld => ?_)
   ·exact ⟨c0,c1,c2,c3,c4,c5⟩
   refine tkR 0 rfl ?_
   refine tkR 1 rfl ?_
   refine tkR 2 rfl ?_
   refine tkR 3 rfl ?_
   refine tkR 4 rfl ?_
   refine tkR 5 rfl ?_
   refine tkR 6 rfl ?_
   refine tkR 7 rfl ?_
   refine tkR 8 rfl ?_
   refine tkR 9 rfl ?_
   refine tkR 10 rfl ?_
   refine clR 11 rfl fun K hK => ?_
   go_simp
   refine Calls.mono (HTO.out _) ?_
   rintro e w4 ⟨rfl,hb4⟩
   have hbd:Below wr.heap.size wr w4:=((Below.refl wr.heap.size wr).drew).trans hb4
   have HO4:=Lib.hid (own_below HO.out hbd)
   have HB4:=Lib.hid (HB.out.trans (hbd.mono hzw))
   have hz4:=hbd.size
   refine hK.out _ _ ?_ (fun hHeld => ?_)
   ·(try dsimp only)
    obtain ⟨c0,c1,c2,c3,c4,c5⟩:=hHeld
    obtain ⟨hcc,_⟩:=bcell hb4
    exact ⟨(hcc _ _ (by go_size)).trans c0,(hcc _ _ (by go_size)).trans c1,(hcc _ _ (by go_size)).trans c2,(hcc _ _ (by go_size)).trans c3,(hcc _ _ (by go_size)).trans c4,(hcc _ _ (by go_size)).trans c5⟩
   clear hK K
   refine tkR 12 rfl ?_
   refine clR 13 rfl fun K hK => ?_
   go_simp
   refine hK.out _ _ ?_ (fun hHeld => ?_)
   ·(try dsimp only)
    obtain ⟨c0,c1,c2,c3,c4,c5⟩:=hHeld
    exact ⟨(World.cell?_alloc_lt _ _ _ (by show b < _; omega)).trans c0,(World.cell?_alloc_lt _ _ _ (by show b < _; omega)).trans c1,(World.cell?_alloc_lt _ _ _ (by show b < _; omega)).trans c2,(World.cell?_alloc_lt _ _ _ (by show b < _; omega)).trans c3,(World.cell?_alloc_lt _ _ _ (by show b < _; omega)).trans c4,(World.cell?_alloc_lt _ _ _ (by show b < _; omega)).trans c5⟩
   clear hK K
   (try simp only [Act.put,sqA,sqB,sqC])
   refine clR 14 rfl fun K hK => ?_
   refine step_app _ (by rfl) stPlacesR _ _ (by rfl) w.heap.size _ k _ (by rfl) (own_below HO4.out ((Below.refl _ _).alloc (Nat.le_refl _) (.cells #[.bool u,.int .i64 a,.int .u64 (q:Int),.int .i64 p,.bool st,.int .u32 (s:Int)] 176))) (w4.heap.size + 1) _ 1 [.bool u,.int .i64 a,.int .u64 (q:Int),.int .i64 p,.bool st,.int .u32 (s:Int)] (by rfl) (litN6 w4 #[.bool u,.int .i64 a,.int .u64 (q:Int),.int .i64 p,.bool st,.int .u32 (s:Int)] _ rfl) (by simp [Value.oneCell']) (by omega) (by simp; omega) ?_
   intro v2 w2 hown2 hgr2 hat2 hbel2
   clear hgr2 hat2
   refine hK.out _ _ ?_ (fun hHeld => ?_)
   ·(try dsimp only)
    obtain ⟨c0,c1,c2,c3,c4,c5⟩:=hHeld
    obtain ⟨hcc,_⟩:=bcell hbel2
    exact ⟨(hcc _ _ (by omega)).trans c0,(hcc _ _ (by omega)).trans c1,(hcc _ _ (by omega)).trans c2,(hcc _ _ (by omega)).trans c3,(hcc _ _ (by omega)).trans c4,(hcc _ _ (by omega)).trans c5⟩
   clear hK K
   refine tkR 15 rfl ?_
   refine wpAnyH_done (by kernel_rfl) ?_ _
   have HO2:Hid (w2.ownsRow w.heap.size 176 6 v2 (k + 1) (plc (listP f (k + 1)))):=by
    rw [HX.out]; exact hown2
   have HB2:Hid (Below w.heap.size w w2):=(HB4.out.alloc (by omega) _).trans hbel2
   clear hown2 hbel2
   go_wp2
   go_roundw
   case rel => exact ⟨k + 1,by omega,by go_num,HO2.out,HB2.out⟩
   case measure => simp [intOf]; omega
  ·have:k=n:=by omega
   subst this
   go_wp2
   go_ret
   exact ⟨_,rfl,RowOf.of_own HO.out,HB.out⟩
set_option maxHeartbeats 3200000 in
theorem ref10_SameEq {f:Nat→Pl} {n:Nat} {y z:Value} {w:World} {B B2:Nat} (hy:PlRow w B y n f) (hz:PlRow w B2 z n f) :
  Calls Tryz.prog 57 #[y,z] w (Says (.bool true) w):=by
 obtain ⟨A,cap,rfl,h1,h2,h3⟩:=hy
 obtain ⟨A2,cap2,rfl,h4,h5,h6⟩:=hz
 have HC:=Lib.hid h3
 have HD:=Lib.hid h6
 unfold maxLen at h2 h5
 have hne:((n:Int) != (n:Int))=false:=by simp
 clear h3 h6
 go_enter Tryz.func57,Tryz.ntmps57
 go_wp2
 clear hne
 go_loopw [5] (fun i wr => ∃ k:Nat,k≤n∧i=.int .i64 k∧∃ m,wr=w.drewN m) (fun i _ => n - (intOf i).toNat)
 case atStart => exact ⟨0,by omega,rfl,0,rfl⟩
 case round =>
  obtain ⟨k,hk,rfl,m,rfl⟩:=hrel
  by_cases hlt:k < n
  ·obtain ⟨b,off,rfl,hb,hc⟩:=HC.out (by omega)
   obtain ⟨b2,off2,rfl,hb2,hc2⟩:=HD.out (by omega)
   have g0:(0:Int)≤(k:Int):=Int.natCast_nonneg _
   have g1:(k:Int) < (n:Int):=by omega
   have hcx:=hc k hlt
   have hdx:=hc2 k hlt
   obtain ⟨x,hx⟩:∃ x,x=f k:=⟨_,rfl⟩
   rw [← hx] at hcx hdx
   clear hx
   obtain ⟨u,⟨a,q,p,st,s⟩⟩:=x
   obtain ⟨c0',c1',c2',c3',c4',c5'⟩:=hcx
   have c0:(w.drewN m).cell? ⟨b,off + k * 6,none⟩=some (.bool u):=c0'
   have c1:(w.drewN m).cell? ⟨b,off + k * 6 + 1,none⟩=some (.int .i64 a):=c1'
   have c2:(w.drewN m).cell? ⟨b,off + k * 6 + 2,none⟩=some (.int .u64 (q:Int)):=c2'
   have c3:(w.drewN m).cell? ⟨b,off + k * 6 + 3,none⟩=some (.int .i64 p):=c3'
   have c4:(w.drewN m).cell? ⟨b,off + k * 6 + 4,none⟩=some (.bool st):=c4'
   have c5:(w.drewN m).cell? ⟨b,off + k * 6 + 5,none⟩=some (.int .u32 (s:Int)):=c5'
   clear c0' c1' c2' c3' c4' c5'
   obtain ⟨d0',d1',d2',d3',d4',d5'⟩:=hdx
   have d0:(w.drewN m).cell? ⟨b2,off2 + k * 6,none⟩=some (.bool u):=d0'
   have d1:(w.drewN m).cell? ⟨b2,off2 + k * 6 + 1,none⟩=some (.int .i64 a):=d1'
   have d2:(w.drewN m).cell? ⟨b2,off2 + k * 6 + 2,none⟩=some (.int .u64 (q:Int)):=d2'
   have d3:(w.drewN m).cell? ⟨b2,off2 + k * 6 + 3,none⟩=some (.int .i64 p):=d3'
   have d4:(w.drewN m).cell? ⟨b2,off2 + k * 6 + 4,none⟩=some (.bool st):=d4'
   have d5:(w.drewN m).cell? ⟨b2,off2 + k * 6 + 5,none⟩=some (.int .u32 (s:Int)):=d5'
   clear d0' d1' d2' d3' d4' d5'
   clear hc HC hc2 HD
   go_wp2_with fail
   refine wp_region_held_drew (S:=fun w' => w'.cell? ⟨b,off + k * 6,none⟩=some (.bool u)∧w'.cell? ⟨b,off + k * 6 + 1,none⟩=some (.int .i64 a)∧w'.cell? ⟨b,off + k * 6 + 2,none⟩=some (.int .u64 (q:Int))∧w'.cell? ⟨b,off + k * 6 + 3,none⟩=some (.int .i64 p)∧w'.cell? ⟨b,off + k * 6 + 4,none⟩=some (.bool st)∧w'.cell? ⟨b,off + k * 6 + 5,none⟩=some (.int .u32 (s:Int))∧w'.cell? ⟨b2,off2 + k * 6,none⟩=some (.bool u)∧w'.cell? ⟨b2,off2 + k * 6 + 1,none⟩=some (.int .i64 a)∧w'.cell? ⟨b2,off2 + k * 6 + 2,none⟩=some (.int .u64 (q:Int))∧w'.cell? ⟨b2,off2 + k * 6 + 3,none⟩=some (.int .i64 p)∧w'.cell? ⟨b2,off2 + k * 6 + 4,none⟩=some (.bool st)∧w'.cell? ⟨b2,off2 + k * 6 + 5,none⟩=some (.int .u32 (s:Int))) (by kernel_rfl) ?_ (fun hHeld => ?_)
   ·exact ⟨c0,c1,c2,c3,c4,c5,d0,d1,d2,d3,d4,d5⟩
   refine tkR 0 rfl ?_
   refine tkR 1 rfl ?_
   refine tkR 2 rfl ?_
   refine tkR 3 rfl ?_
   refine tkR 4 rfl ?_
   refine tkR 5 rfl ?_
   refine tkR 6 rfl ?_
   refine tkR 7 rfl ?_
   refine tkR 8 rfl ?_
   refine wpAnyH_done (by kernel_rfl) ?_ _
   go_wp2
   go_roundw
   case rel => exact ⟨k + 1,by omega,by go_num,_,rfl⟩
   case measure => simp [intOf]; omega
  ·have:k=n:=by omega
   subst this
   go_wp2
   go_ret
   exact ⟨rfl,below_drewN (Below.refl _ _) _⟩
end
section
open Go.RowKit
end
section

end
end Go.Proofs.YtpcapdpglpgcbaaGreat
