/-
  Words and contracts that a statement's proof rests on (HiC). No statement is proved here.
-/
import Derived.Test.YtfekhdgjgjodlaaHiA
import Derived.Test.YtfekhdgjgjodlaaMoT
import Derived.Test.YtfekhdgjgjodlaaMrU
import Derived.Test.YtfekhdgjgjodlaaMoJ
set_option linter.unusedVariables false
set_option linter.unusedSimpArgs false
namespace Go.Proofs.Ytfekhdgjgjodlaa
open Go.RowKit
theorem stInts9:ST Try.prog 24 3 (.int .i64 0) 1 8:=ST.mk Try.underlying24 (by kernel_rfl) rfl (by omega) (by omega)
def natV (o:List Nat):List Value:=o.map fun (i:Nat) => .int .i64 (i:Int)
theorem natV_length (o:List Nat):(natV o).length=o.length:=by simp [natV]
theorem natV_at {o:List Nat} {i:Nat} (h:i < o.length):(natV o)[i]?=some (.int .i64 (getN o i:Nat)):=by
 unfold natV
 rw [List.getElem?_map,getN_at h]
 rfl
theorem natV_append (a b:List Nat):natV (a ++ b)=natV a ++ natV b:=by simp [natV]
theorem natV_one (i:Nat):natV [i]=[.int .i64 (i:Int)]:=rfl
def OrdPost (N:Nat) (key:Nat→Int) (w:World) (e:Ending) (w':World):Prop :=
 ∃ A cap o,e=.returned (.slice A o.length cap)∧OrdL N key o∧Sl w' w'.heap.size 1 (.slice A o.length cap) o.length (natV o)∧Below w.heap.size w w'∧∀ b off,A=some ⟨b,off,none⟩→0 < o.length→w.heap.size≤b
section
set_option maxRecDepth 20000 in
set_option maxHeartbeats 1600000 in
theorem ins_sort0 (A:Option Addr) (c:Nat) (f:Value) (w:World):Calls Try.prog 30 #[.slice A 0 c,.int .i64 0,.int .i64 0,f] w fun e w' => e=.returned (.tuple #[])∧w=w':=by
 go_enter Try.func30,Try.ntmps30
 go_wp2
 go_loopw [8] (fun i wr => i=.int .i64 1∧w=wr) (fun _ _ => 0)
 case atStart => exact ⟨rfl,rfl⟩
 case round =>
  obtain ⟨rfl,rfl⟩:=hrel
  go_wp2
  first | go_end0 | go_ret
  exact ⟨rfl,rfl⟩
set_option maxRecDepth 20000 in
set_option maxHeartbeats 1600000 in
theorem stable_row0 (A:Option Addr) (c:Nat) (f:Value) (w:World):Calls Try.prog 16 #[.slice A 0 c,.int .i64 0,f] w fun e w' => e=.returned (.tuple #[])∧w=w':=by
 have HI:=Lib.hid fun W => ins_sort0 A c f W
 go_enter Try.func16,Try.ntmps16
 go_wp2
 go_loopw [7,8] (fun a b wr => a=.int .i64 0∧b=.int .i64 20∧w=wr) (fun _ _ _ => 0)
 case atStart => exact ⟨rfl,rfl,rfl⟩
 case round =>
  obtain ⟨rfl,rfl,rfl⟩:=hrel
  go_wp2_with first
   | ((with_reducible refine Calls.mono (HI.out _) ?_); rintro _ w1 ⟨rfl,rfl⟩)
   | fail
  go_loopw [6,7,8,9] (fun Bv av bv mv wr => Bv=.int .i64 20∧w=wr) (fun Bv av bv mv _ => 0)
  case atStart => exact ⟨rfl,rfl⟩
  case round =>
   obtain ⟨rfl,rfl⟩:=hrel
   go_wp2
   first | go_end0 | go_ret
   exact ⟨rfl,rfl⟩
set_option maxRecDepth 20000 in
set_option maxHeartbeats 1600000 in
theorem sort_row0 (A:Option Addr) (c:Nat) (f:Value) (w:World):Calls Try.prog 8 #[.slice A 0 c,f] w fun e w' => e=.returned (.tuple #[])∧w=w':=by
 have HI:=Lib.hid fun W => stable_row0 A c f W
 go_enter Try.func8,Try.ntmps8
 go_wp2_with first
  | ((with_reducible refine Calls.mono (HI.out _) ?_); rintro _ w1 ⟨rfl,rfl⟩)
  | fail
 first | go_end0 | go_ret
 exact ⟨rfl,rfl⟩
end
theorem ord_post {w w':World} {pb c lb N:Nat} {key:Nat→Int} {f:Nat→Nat} (hm:MgK key (getN (pls key N)) f 0 (pls key N).length) (hs:SrAt w' pb (pls key N).length lb N key f) (hb:Below w.heap.size w w') (hpb:w.heap.size≤pb) (hc:(pls key N).length≤c) (hx:c≤maxLen) :
  OrdPost N key w (.returned (.slice (some ⟨pb,0,none⟩) (pls key N).length c)) w':=by
 refine ⟨some ⟨pb,0,none⟩,c,(List.range (pls key N).length).map f,by simp,OrdL.of_sorted hm,?_,hb,fun b off e _ => by injection e with e; injection e with e; omega⟩
 have hl:((List.range (pls key N).length).map f).length=(pls key N).length:=by simp
 rw [hl]
 refine ⟨by rw [natV_length,hl]; omega,_,c,rfl,hc,hx,fun hn => ⟨pb,0,rfl,hs.lt,fun j hj => ?_⟩⟩
 rw [Nat.zero_add,hs.row.cell (by omega),natV_at (by omega),getN_map f (by omega)]
theorem ord_post0 {w w':World} {N:Nat} {key:Nat→Int} {A:Option Addr} {c:Nat} (hz:(pls key N).length=0) (hb:Below w.heap.size w w') (hx:c≤maxLen):OrdPost N key w (.returned (.slice A 0 c)) w':=by
 have he:pls key N=[]:=List.eq_nil_of_length_eq_zero hz
 refine ⟨A,c,[],rfl,⟨List.Pairwise.nil,fun i => ?_⟩,⟨by simp [natV],A,c,rfl,Nat.zero_le _,hx,fun h => absurd h (by simp)⟩,hb,fun b off _ h => absurd h (by simp)⟩
 rw [← pls_mem,he]
section
variable {w:World} {N B:Nat} {v:Value} {L:Nat→Ent}
set_option maxRecDepth 20000 in
set_option maxHeartbeats 6400000 in
theorem hist_Order (hn:N≤1000000) (h:EnRow w B N v L) (hB:B≤w.heap.size) :
  Calls Try.prog 5 #[v] w (OrdPost N (fun i => (L i).mar) w):=by
 obtain ⟨A,cap,rfl,h1,h2,h3⟩:=h
 obtain ⟨key,hkey⟩:∃ key,key=fun i => (L i).mar:=⟨_,rfl⟩
 rw [← hkey]
 have HK:Hid (∀ i,key i=(L i).mar):=fun i => by rw [hkey]
 have HC:=Lib.hid h3
 have HN:=Lib.hid (And.intro hn (And.intro h1 hB))
 have HMX:=Lib.hid h2
 have HLE:=Lib.hid fun k => pls_le key k
 unfold maxLen at h2
 clear h3 hkey h1 hB hn
 go_enter Try.func5,Try.ntmps5
 go_wp2
 go_loopw [3,8] (fun pv i wr => ∃ (k:Nat) (pw:Value) (wx:World),pw=pv∧wx=wr∧k≤N∧i=.int .i64 k∧Hid (wr.ownsRow (w.heap.size + 1) 3 1 pv (pls key k).length (natV (pls key k)))∧Hid (Below w.heap.size w wr∧w.heap.size < wr.heap.size∧wr.cell? ⟨w.heap.size,0,none⟩=some (.slice A N cap))) (fun _ i _ => N - (intOf i).toNat)
 case atStart => exact ⟨0,_,_,rfl,rfl,Nat.zero_le _,rfl,⟨by simp [natV,pls],.inl ⟨rfl,rfl⟩⟩,(Below.refl _ _).alloc (Nat.le_refl _) _,by simp,by simp [go_sem]⟩
 case round =>
  obtain ⟨k,pv,wr,rfl,rfl,hk,rfl,HO,HI⟩:=hrel
  by_cases hlt:k < N
  ·have d1:decide (k < N)=true:=decide_eq_true hlt
   obtain ⟨b,off,rfl,hb,hc⟩:=HC.out (by omega)
   have HRG:=Lib.hid ((hc k hlt).keep (w':=wr) fun p hp => HI.out.1.cell (by rw [hp]; have:=HN.out; omega)).range
   have HKK:=Lib.hid (HK.out k)
   obtain ⟨x,hx⟩:∃ x,x=L k:=⟨_,rfl⟩
   rw [← hx] at HRG HKK
   clear hc hx HC
   obtain ⟨mar,hmar⟩:∃ m,m=x.mar:=⟨_,rfl⟩
   rw [← hmar] at HKK
   have HMR:=Lib.hid hmar
   clear hmar
   have HPS:=Lib.hid (pls_succ key k)
   have hplk:=HLE.out k
   have g0:(0:Int)≤(k:Int):=Int.natCast_nonneg _
   have g1:(k:Int) < (N:Int):=by omega
   have hKN:k≤1000000:=by have:=HN.out.1; omega
   have hzr:=HI.out.2.1
   by_cases hm:0 < mar
   ·have d2:decide (mar > 0)=true:=decide_eq_true hm
    have HP1:Hid (pls key (k + 1)=pls key k ++ [k]):=Lib.hid (by rw [HPS.out,if_pos (by rw [HKK.out]; exact hm)])
    clear HPS hm
    go_wp2_with (first
     | (refine wpList_load_mid (by rfl) 45 _ (by rfl) b (off + k * 19) (by rfl) x.cells _ HRG.out Try.underlying45 (by rfl) (by rw [Ent.cells_length]; kernel_rfl) ?_; clear HRG)
     | (refine wpList_store (by rfl) 45 _ _ (by rfl) wr.heap.size 0 x.cells.toArray (by rfl) (by rfl) (there_of (cs:=#[.int .i64 0,.int .i64 0,.int .i64 0,.int .i64 0,.int .i64 0,.int .i64 0,.int .i64 0,.int .i64 0,.int .i64 0,.int .i64 0,.int .u64 0,.int .u64 0,.int .u64 0,.int .u32 0,.int .u32 0,.int .i64 0,.int .i64 0,.int .i64 0,.int .i64 0]) (heap_self _ _ _)) (by rw [List.size_toArray,Ent.cells_length]; kernel_rfl) (all_oneCell_toArray x.cells_one) ?_; intro wz hst; (have z2:wz.cell? ⟨wr.heap.size,2,none⟩=some (.int .i64 mar):=by rw [HMR.out]; exact hst.cells 2 _ rfl); (have HZO:=Lib.hid (own_stored (HO.out.alloc _) hst (fun e => by have:=(HO.out.lt _ e).2; omega))); (have HZB:Hid (Below w.heap.size w wz∧w.heap.size < wz.heap.size∧wz.heap.size=wr.heap.size + 1∧wz.cell? ⟨w.heap.size,0,none⟩=some (.slice (some ⟨b,off,none⟩) N cap)):=⟨(HI.out.1.alloc (by omega) _).trans (hst.below _ (by omega)),by rw [hst.size]; simp; omega,by rw [hst.size]; simp,((hst.below wr.heap.size (Nat.le_refl _)).cell (p:=⟨w.heap.size,0,none⟩) hzr).trans ((World.cell?_alloc_lt _ _ _ hzr).trans HI.out.2.2)⟩); clear hst)
     | (at_builtin; refine wpList_app _ rfl stInts9 (.tmp 16) (.tmp 18) rfl (w.heap.size + 1) pv (pls key k).length _ rfl (HZO.out.alloc _) (wz.heap.size + 1) _ 1 [.int .i64 (k:Int)] rfl (Sl.lit wz #[.int .i64 (k:Int)] _ 1 rfl (by decide)) (by simp [Value.oneCell']) (by omega) (by have:=HZB.out.2.1; simp; omega) ?_; intro v2 w2 hown2 hgr2 hat2 hbel2; (have HO2:Hid (w2.ownsRow (w.heap.size + 1) 3 1 v2 (pls key (k + 1)).length (natV (pls key (k + 1)))):=by rw [HP1.out,natV_append,natV_one,List.length_append]; exact hown2); (have HB2:Hid (Below w.heap.size w w2∧w.heap.size < w2.heap.size∧w2.cell? ⟨w.heap.size,0,none⟩=some (.slice (some ⟨b,off,none⟩) N cap)):=⟨(HZB.out.1.alloc (Nat.le_of_lt HZB.out.2.1) _).trans (hbel2.mono (by omega)),by have:=hbel2.size; have:=HZB.out.2.1; simp at *; omega,(hbel2.cell (p:=⟨w.heap.size,0,none⟩) (by show w.heap.size < _; omega)).trans ((World.cell?_alloc_lt _ _ _ HZB.out.2.1).trans HZB.out.2.2.2)⟩); clear hown2 hgr2 hat2 hbel2)
     | fail)
    go_roundw
    case rel => exact ⟨k + 1,_,_,rfl,rfl,by omega,by go_num,HO2.out,HB2.out⟩
    case measure => simp [intOf]; omega
   ·have d2:decide (mar > 0)=false:=decide_eq_false hm
    have HP1:Hid (pls key (k + 1)=pls key k):=Lib.hid (by rw [HPS.out,if_neg (by rw [HKK.out]; exact hm),List.append_nil])
    clear HPS hm
    go_wp2_with (first
     | (refine wpList_load_mid (by rfl) 45 _ (by rfl) b (off + k * 19) (by rfl) x.cells _ HRG.out Try.underlying45 (by rfl) (by rw [Ent.cells_length]; kernel_rfl) ?_; clear HRG)
     | (refine wpList_store (by rfl) 45 _ _ (by rfl) wr.heap.size 0 x.cells.toArray (by rfl) (by rfl) (there_of (cs:=#[.int .i64 0,.int .i64 0,.int .i64 0,.int .i64 0,.int .i64 0,.int .i64 0,.int .i64 0,.int .i64 0,.int .i64 0,.int .i64 0,.int .u64 0,.int .u64 0,.int .u64 0,.int .u32 0,.int .u32 0,.int .i64 0,.int .i64 0,.int .i64 0,.int .i64 0]) (heap_self _ _ _)) (by rw [List.size_toArray,Ent.cells_length]; kernel_rfl) (all_oneCell_toArray x.cells_one) ?_; intro wz hst; (have z2:wz.cell? ⟨wr.heap.size,2,none⟩=some (.int .i64 mar):=by rw [HMR.out]; exact hst.cells 2 _ rfl); (have HZO:=Lib.hid (own_stored (HO.out.alloc _) hst (fun e => by have:=(HO.out.lt _ e).2; omega))); (have HZB:Hid (Below w.heap.size w wz∧w.heap.size < wz.heap.size∧wz.heap.size=wr.heap.size + 1∧wz.cell? ⟨w.heap.size,0,none⟩=some (.slice (some ⟨b,off,none⟩) N cap)):=⟨(HI.out.1.alloc (by omega) _).trans (hst.below _ (by omega)),by rw [hst.size]; simp; omega,by rw [hst.size]; simp,((hst.below wr.heap.size (Nat.le_refl _)).cell (p:=⟨w.heap.size,0,none⟩) hzr).trans ((World.cell?_alloc_lt _ _ _ hzr).trans HI.out.2.2)⟩); clear hst)
     | fail)
    go_roundw
    case rel => exact ⟨k + 1,_,_,rfl,rfl,by omega,by go_num,by rw [HP1.out]; exact HZO.out,HZB.out.1,HZB.out.2.1,HZB.out.2.2.2⟩
    case measure => simp [intOf]; omega
  ·have hkN:k=N:=by omega
   subst hkN
   have d1:decide (k < k)=false:=decide_eq_false hlt
   obtain ⟨n,hn⟩:∃ n,n=(pls key k).length:=⟨_,rfl⟩
   rcases Nat.eq_zero_or_pos n with h0 | h0
   ·have HZ:Hid ((pls key k).length=0):=Lib.hid (by rw [← hn]; exact h0)
    have hf:=(Sl.of_own HO.out).form
    rw [HZ.out] at hf
    obtain ⟨Ap,cp,rfl,_,hcm⟩:=hf
    have HCM:=Lib.hid hcm
    have HS:=Lib.hid fun f W => sort_row0 Ap cp f W
    clear h0 hn hcm hlt
    go_wp2_with first
     | ((with_reducible refine Calls.mono (HS.out _ _) ?_); rintro _ w1 ⟨rfl,rfl⟩)
     | fail
    go_ret
    exact ord_post0 HZ.out HI.out.1 HCM.out
   ·obtain ⟨pb,cp,F,rfl,hnc,hpb,hrow,hat⟩:=own_rowIs HO.out (by rw [← hn]; exact h0)
    have hcm:=(Sl.of_own HO.out).form
    have HCM:Hid ((pls key k).length≤cp∧cp≤maxLen):=by
     obtain ⟨A',c',e,e1,e2⟩:=hcm
     injection e with _ _ e
     subst e
     exact ⟨e1,e2⟩
    have hsr:SrAt wr pb (pls key k).length w.heap.size k key (getN (pls key k)):=by
     refine ⟨⟨cp,F,hrow,hnc,fun i hi => ?_⟩,⟨HI.out.2.1,by omega,A,cap,HI.out.2.2,fun hk0 => ?_⟩,fun i hi => (pls_mem.1 (getN_mem hi)).1⟩
     ·have:=hat i hi
      rw [natV_at hi] at this
      injection this with this
      exact this.symm
     ·obtain ⟨b,off,e,hb,hc⟩:=HC.out hk0
      refine ⟨b,off,e,by have:=HN.out.2.2; have:=HI.out.1.size; omega,by have:=HN.out.2.2; omega,fun i hi => ?_⟩
      rw [HK.out]
      exact (HI.out.1.cell (p:=⟨b,off + i * 19 + 2,none⟩) (by show b < _; have:=HN.out.2.2; omega)).trans (hc i hi).2.2.1
    have HS:=Lib.hid (sort_row (cp:=cp) (by have:=HLE.out k; have:=HN.out.1; omega) hsr (pls_st key k))
    have HPB:=Lib.hid hpb
    rw [← hn] at HS
    have HNN:=Lib.hid hn
    rw [← hn]
    clear h0 hcm hat hrow hnc hpb hsr hlt hn
    go_wp2_with first
     | ((with_reducible refine Calls.mono HS.out ?_); rintro _ w1 ⟨rfl,f',m1,m2,m3⟩; have HM:=Lib.hid (And.intro m1 (And.intro m2 m3)); clear m1 m2 m3)
     | fail
    go_ret
    rw [HNN.out]
    rw [HNN.out] at HM
    exact ord_post HM.out.1 HM.out.2.1 (HI.out.1.trans (HM.out.2.2.below.mono (by have:=HPB.out; omega))) (by have:=HPB.out; omega) HCM.out.1 HCM.out.2
end
end Go.Proofs.Ytfekhdgjgjodlaa
