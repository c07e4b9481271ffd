/-
  Words and contracts that a statement's proof rests on (MoG). No statement is proved here.
-/
import Derived.Test.YtfekhdgjgjodlaaVlanD
import Derived.Test.YtfekhdgjgjodlaaMoX
set_option linter.unusedVariables false
set_option linter.unusedSimpArgs false
namespace Go.Proofs.Ytfekhdgjgjodlaa
open Go.RowKit
theorem model_number (b:Bool) (w:World):Calls Try.prog 56 #[.bool b] w (Says (.int .i64 (if b=true then 1 else 0)) w):=by
 cases b
 ·go_enter Try.func56,Try.ntmps56
  go_wp2
  go_ret
  exact ⟨by simp,Below.refl _ _⟩
 ·go_enter Try.func56,Try.ntmps56
  go_wp2
  go_ret
  exact ⟨by simp,Below.refl _ _⟩
def membersI (lv:List Vl) (nv:Nat) (vid:Int):Int:=if findN lv vid nv < 0 then 0 else wrap64 ((lv.getD (findN lv vid nv).toNat vl0).mem:Int)
def setV (lv:List Vl) (j:Nat) (x:Vl):List Vl:=lv.set j x
theorem vlc_set:∀ (l:List Vl) (j:Nat) (x:Vl),j < l.length→(((vlc l).set (j * 3) (.int .i64 x.vid)).set (j * 3 + 1) (.int .u64 (x.mem:Nat))).set (j * 3 + 2) (.int .u64 (x.unt:Nat))=vlc (l.set j x)
 | [],j,x,h => by simp at h
 | y :: l,0,x,_ => rfl
 | y :: l,j + 1,x,h => by
  have ih:=vlc_set l j x (by simpa using h)
  have e:(j + 1) * 3=j * 3 + 1 + 1 + 1:=by omega
  show ((((Value.int .i64 y.vid :: .int .u64 (y.mem:Nat) :: .int .u64 (y.unt:Nat) :: vlc l).set ((j + 1) * 3) _).set ((j + 1) * 3 + 1) _).set ((j + 1) * 3 + 2) _)=_
  rw [e]
  simp only [List.set_cons_succ,List.set_cons_succ]
  rw [ih]
  rfl
theorem MdAt.setV {w:World} {L A S1 Q b cap:Nat} {bv:Value} {P r nv:Nat} {lv:List Vl} {st:Nat→Int × Nat} {G:Nat→Value} (h:MdAt w L A S1 Q (.slice (some ⟨b,0,none⟩) nv cap) bv P r nv lv st G) (j:Nat) (hj:j < lv.length) (x:Vl):MdAt (((w.setCell ⟨b,j * 3,none⟩ (.int .i64 x.vid)).setCell ⟨b,j * 3 + 1,none⟩ (.int .u64 (x.mem:Nat))).setCell ⟨b,j * 3 + 2,none⟩ (.int .u64 (x.unt:Nat))) L A S1 Q (.slice (some ⟨b,0,none⟩) nv cap) bv P r nv (lv.set j x) st G:=by
 have hb:∀ k,k ≠ b→(((w.setCell ⟨b,j * 3,none⟩ (.int .i64 x.vid)).setCell ⟨b,j * 3 + 1,none⟩ (.int .u64 (x.mem:Nat))).setCell ⟨b,j * 3 + 2,none⟩ (.int .u64 (x.unt:Nat))).heap[k]?=w.heap[k]?:=fun k hk => (heap_setCell_far _ _ _ (by exact hk)).trans ((heap_setCell_far _ _ _ (by exact hk)).trans (heap_setCell_far _ _ _ (by exact hk)))
 have hne:∀ {a M N:Nat} {T:TypeId} {f:Nat→Value},w.rowIs a T M f→T ≠ 90→a ≠ b:=fun hr hT e => rowIs_own_ne hr h.vlans hT (by rw [e]; rfl)
 refine ⟨h.la,h.ls,h.lq,h.cells.of_block (hb _ (hne (N:=0) h.cells (by decide))),h.stands.of_block (hb _ (fun e => rowH_own_ne h.stands h.vlans (by decide) (by rw [e]; rfl))),?_,h.queues.of_block (hb _ (hne (N:=0) h.queues (by decide))),h.cs⟩
 have h1:=(h.vlans.stored (j * 3) (.int .i64 x.vid)).1
 have h2:=(h1.stored (j * 3 + 1) (.int .u64 (x.mem:Nat))).1
 have h3:=(h2.stored (j * 3 + 2) (.int .u64 (x.unt:Nat))).1
 rw [vlc_set lv j x hj] at h3
 exact h3
set_option maxRecDepth 20000 in
set_option maxHeartbeats 1600000 in
theorem model_members {w:World} {L A S1 Q bp:Nat} {uv:Value} {P r nv:Nat} {lv:List Vl} {st:Nat→Int × Nat} {G:Nat→Value} (h:MdAt w L A S1 Q uv (.pointer (some ⟨bp,0,none⟩)) P r nv lv st G) (vid:Int):Calls Try.prog 52 #[.pointer (some ⟨A,0,none⟩),.int .i64 vid] w (Says (.int .i64 (membersI lv nv vid)) w):=by
 have hV:=fun w' (hb:Below w.heap.size w w') => vlan_Find (Sl.of_own (h.call hb).vlans) (Nat.le_refl _) vid
 have hbd:=firstI_bd (vidAt lv vid) nv
 obtain ⟨X,hX⟩:∃ X,X=membersI lv nv vid:=⟨_,rfl⟩
 rw [← hX]
 unfold membersI findN at hX
 unfold findN at hV
 obtain ⟨Au,cu,huv,_,_⟩:=(Sl.of_own h.vlans).form
 have hsl:=Sl.of_own h.vlans
 by_cases hneg:firstI (vidAt lv vid) nv < 0
 ·rw [if_pos hneg] at hX
  have hm:firstI (vidAt lv vid) nv=-1:=by omega
  rw [hm] at hV
  have HV:=Lib.hid hV
  have HX:=Lib.hid hX
  subst huv
  have c2:w.cell? ⟨A,2,none⟩=some (.slice Au nv cu):=h.cells.cell (by omega)
  clear hV hX h hsl hneg hm hbd
  go_enter Try.func52,Try.ntmps52
  go_wp2_with (first
   | (go_at_call 67; (with_reducible refine Calls.mono (HV.out _ (Below.refl _ _)) ?_); rintro e w1 ⟨rfl,hb⟩; (have HB:=Lib.hid hb); clear hb))
  go_ret
  exact ⟨by rw [HX.out] <;> first | rfl | (simp; done),HB.out⟩
 ·rw [if_neg hneg] at hX
  obtain ⟨j,hj⟩:∃ j:Nat,firstI (vidAt lv vid) nv=j:=⟨(firstI (vidAt lv vid) nv).toNat,by omega⟩
  rw [hj,Int.toNat_natCast] at hX
  have hjn:j < nv:=by omega
  rw [hj] at hV
  have HV:=Lib.hid hV
  obtain ⟨b0,off,cap,e,hc1,hc2,hb0,hlen,hcell⟩:=hsl.vlAt (by omega)
  obtain ⟨k0,k1,k2⟩:=hcell j hjn
  generalize lv.getD j vl0=xv at *
  subst e
  have c2:w.cell? ⟨A,2,none⟩=some (.slice (some ⟨b0,off,none⟩) nv cap):=h.cells.cell (by omega)
  have hAz:A < w.heap.size:=h.cells.lt
  have HK:=Lib.hid fun w' (hb:Below w.heap.size w w') => And.intro ((hb.cell (p:=⟨A,2,none⟩) hAz).trans c2) ((hb.cell (p:=⟨b0,off + j * 3 + 1,none⟩) hb0).trans k1)
  have d2:decide (j < nv)=true:=by simp; omega
  have g0:(0:Int)≤(j:Int):=Int.natCast_nonneg _
  have d3:decide ((j:Int) < 0)=false:=by simp
  have HX:=Lib.hid hX
  clear hX hcell k0 k1 k2 hV hbd hneg hj hlen h hsl huv
  go_enter Try.func52,Try.ntmps52
  go_wp2_with (first
   | (go_at_call 67; (with_reducible refine Calls.mono (HV.out _ (Below.refl _ _)) ?_); rintro e w1 ⟨rfl,hb⟩; (have HB:=Lib.hid hb); (obtain ⟨r2,r3⟩:=HK.out _ hb); clear hb))
  go_ret
  exact ⟨by rw [HX.out] <;> first | rfl | (simp; done),HB.out⟩
theorem own_some {w:World} {L n size b off cap:Nat} {e:TypeId} {xs:List Value} (h:w.ownsRow L e size (.slice (some ⟨b,off,none⟩) n cap) n xs):off=0:=by
 rcases h.2 with hn | ⟨g,cap',cur,hv,_⟩
 ·cases hn.1
 ·injection hv with h1
  injection h1 with h1
  injection h1
theorem model_setVlanNo {w:World} {L A S1 Q bp:Nat} {uv:Value} {P r nv:Nat} {lv:List Vl} {st:Nat→Int × Nat} {G:Nat→Value} (h:MdAt w L A S1 Q uv (.pointer (some ⟨bp,0,none⟩)) P r nv lv st G) (vid:Int) (me un:Nat) (hneg:findN lv vid nv < 0):Calls Try.prog 61 #[.pointer (some ⟨A,0,none⟩),.int .i64 vid,.int .u64 (me:Nat),.int .u64 (un:Nat)] w (Says (.bool false) w):=by
 have hV:=fun w' (hb:Below w.heap.size w w') => vlan_Find (Sl.of_own (h.call hb).vlans) (Nat.le_refl _) vid
 have hbd:=firstI_bd (vidAt lv vid) nv
 obtain ⟨Au,cu,huv,_,_⟩:=(Sl.of_own h.vlans).form
 have hm:findN lv vid nv=-1:=by have h1:=hbd.1; unfold findN at *; omega
 rw [hm] at hV
 have HV:=Lib.hid hV
 subst huv
 have c2:w.cell? ⟨A,2,none⟩=some (.slice Au nv cu):=h.cells.cell (by omega)
 clear hV h hneg hm hbd
 go_enter Try.func61,Try.ntmps61
 go_wp2_with (first
  | (go_at_call 67; (with_reducible refine Calls.mono (HV.out _ (Below.refl _ _)) ?_); rintro e w1 ⟨rfl,hb⟩; (have HB:=Lib.hid hb); clear hb))
 go_ret
 exact ⟨by first | rfl | (simp; done),HB.out⟩
set_option maxRecDepth 20000 in
set_option maxHeartbeats 1600000 in
theorem model_setVlan {w:World} {L A S1 Q bp:Nat} {uv:Value} {P r nv:Nat} {lv:List Vl} {st:Nat→Int × Nat} {G:Nat→Value} (h:MdAt w L A S1 Q uv (.pointer (some ⟨bp,0,none⟩)) P r nv lv st G) (vid:Int) (me un:Nat) (hme:me < 18446744073709551616) (hun:un < 18446744073709551616) (j:Nat) (hj:findN lv vid nv=(j:Int)):Calls Try.prog 61 #[.pointer (some ⟨A,0,none⟩),.int .i64 vid,.int .u64 (me:Nat),.int .u64 (un:Nat)] w fun e w' => e=.returned (.bool true) ∧
   MdAt w' L A S1 Q uv (.pointer (some ⟨bp,0,none⟩)) P r nv (lv.set j ⟨vid,me &&& allN P,un &&& (me &&& allN P)⟩) st G∧∃ b,uv.ownBlock=some b∧But b w w':=by
 have hV:=fun w' (hb:Below w.heap.size w w') => vlan_Find (Sl.of_own (h.call hb).vlans) (Nat.le_refl _) vid
 have hbd:=firstI_bd (vidAt lv vid) nv
 have hsl:=Sl.of_own h.vlans
 have hjn:j < nv:=by have h1:=hbd.2; unfold findN at hj; omega
 rw [hj] at hV
 have HV:=Lib.hid hV
 have HA:=Lib.hid fun W => vlan_All (P:Int) W
 have hall:=allN_lt (P:Int)
 generalize allN (P:Int)=al at *
 have hq1:=u64_and_nat me al hme hall
 have hy1:me &&& al < 18446744073709551616:=Nat.lt_of_le_of_lt Nat.and_le_left hme
 obtain ⟨y1,hy⟩:∃ y,y=me &&& al:=⟨_,rfl⟩
 rw [← hy] at hq1 hy1
 have hq2:=u64_and_nat un y1 hun hy1
 obtain ⟨y2,hy'⟩:∃ y,y=un &&& y1:=⟨_,rfl⟩
 rw [← hy'] at hq2
 rw [← hy,← hy']
 obtain ⟨b0,off,cap,e,hc1,hc2,hb0,hlen,hcell⟩:=hsl.vlAt (by omega)
 obtain ⟨k0,k1,k2⟩:=hcell j hjn
 generalize lv.getD j vl0=xv at *
 subst e
 have hoff:off=0:=own_some h.vlans
 subst hoff
 rw [Nat.zero_add] at k0 k1 k2
 have c2:w.cell? ⟨A,2,none⟩=some (.slice (some ⟨b0,0,none⟩) nv cap):=h.cells.cell (by omega)
 have c1:w.cell? ⟨A,1,none⟩=some (.slice (some ⟨S1,0,none⟩) P (capV (G 100))):=h.cells.cell (by omega)
 have hAz:A < w.heap.size:=h.cells.lt
 have HK:=Lib.hid fun w' (hb:Below w.heap.size w w') => And.intro (And.intro ((hb.cell (p:=⟨A,1,none⟩) hAz).trans c1) ((hb.cell (p:=⟨A,2,none⟩) hAz).trans c2)) (And.intro ((hb.cell (p:=⟨b0,j * 3,none⟩) hb0).trans k0) (And.intro ((hb.cell (p:=⟨b0,j * 3 + 1,none⟩) hb0).trans k1) ((hb.cell (p:=⟨b0,j * 3 + 2,none⟩) hb0).trans k2)))
 have HF:=Lib.hid fun w' (hb:Below w.heap.size w w') o => (hb.frozen (p:=⟨b0,o,none⟩) hb0).trans (h.vlans.frozenAt o)
 have hAb:A ≠ b0:=fun e => rowIs_own_ne h.cells h.vlans (by decide) (by rw [e]; rfl)
 have hAb':¬ b0=A:=fun e => hAb e.symm
 have d2:decide (j < nv)=true:=by simp; omega
 have g0:(0:Int)≤(j:Int):=Int.natCast_nonneg _
 have d3:decide ((j:Int) < 0)=false:=by simp
 have HH:=Lib.hid h
 have hjl:j < lv.length:=by rw [hlen]; exact hjn
 have HJ:=Lib.hid (And.intro hb0 hjl)
 clear hcell k0 k1 k2 hV hbd hj hlen h hsl hy hy' hall hy1 hme hun hb0 hjl
 go_enter Try.func61,Try.ntmps61
 go_wp2_with (first
  | (go_at_call 67; (with_reducible refine Calls.mono (HV.out _ (Below.refl _ _)) ?_); rintro e w1 ⟨rfl,hb⟩; (have HB:=Lib.hid hb); (obtain ⟨⟨r1,r2⟩,r3,r4,r5⟩:=HK.out _ hb); (have f3:=HF.out _ hb (j * 3)); (have f4:=HF.out _ hb (j * 3 + 1)); (have f5:=HF.out _ hb (j * 3 + 2)); clear hb)
  | (go_at_call 44; (with_reducible refine Calls.mono (HA.out _) ?_); rintro e w2 ⟨rfl,rfl⟩))
 go_ret
 refine ⟨by first | rfl | (simp; done),(HH.out.call HB.out).setV j HJ.out.2 ⟨vid,y1,y2⟩,b0,rfl,?_⟩
 exact (((But.of HB.out (by have:=HJ.out.1; omega)).trans (But.set _ _)).trans (But.set _ _)).trans (But.set _ _)
end Go.Proofs.Ytfekhdgjgjodlaa
