/-
  Words and contracts that a statement's proof rests on (BkF, BkV). No statement is proved here.
-/
import Derived.Deep.QuietTactic
import Derived.Test.YtpcapdpglpgcbaaGreatBkE
import Derived.Test.YtpcapdpglpgcbaaGreatBuN
set_option linter.unusedVariables false
set_option linter.unusedSimpArgs false
namespace Go.Proofs.YtpcapdpglpgcbaaGreat
section
open Go.RowKit
def enCells (e:En):List Value:=[.int .i64 e.vid,.int .u64 (e.mac:Nat),.int .i64 e.port,.bool e.st,.int .u32 (e.stamp:Nat)]
def encs:List En→List Value
 | [] => []
 | x :: l => enCells x ++ encs l
theorem encs_append:∀ a b:List En,encs (a ++ b)=encs a ++ encs b
 | [],b => rfl
 | x :: a,b => by simp [encs,encs_append a b]
theorem encs_one (x:En):encs [x]=enCells x:=by simp [encs]
def usedL (f:Nat→Pl):Nat→List En
 | 0 => []
 | k + 1 => usedL f k ++ (if (f k).used=true then [(f k).e] else [])
def bookL (g:Nat→Nat→Pl) (n:Nat):Nat→List En
 | 0 => []
 | i + 1 => bookL g n i ++ usedL (g i) n
theorem usedL_le (f:Nat→Pl):∀ k,(usedL f k).length≤k
 | 0 => Nat.le_refl _
 | k + 1 => by
  have:=usedL_le f k
  rw [usedL,List.length_append]
  split <;> simp <;> omega
theorem bookL_le (g:Nat→Nat→Pl) (n:Nat):∀ i,(bookL g n i).length≤i * n
 | 0 => by simp [bookL]
 | i + 1 => by
  have h1:=bookL_le g n i
  have h2:=usedL_le (g i) n
  rw [bookL,List.length_append,Nat.add_mul]
  omega
theorem usedL_yes {f:Nat→Pl} {k:Nat} (h:(f k).used=true):usedL f (k + 1)=usedL f k ++ [(f k).e]:=by rw [usedL,if_pos h]
theorem usedL_no {f:Nat→Pl} {k:Nat} (h:(f k).used=false):usedL f (k + 1)=usedL f k:=by rw [usedL,if_neg (by simp [h]),List.append_nil]
theorem stEnts:ST Tryz.prog 135 142 (.agg #[.int .i64 0,.int .u64 0,.int .i64 0,.bool false,.int .u32 0]) 5 32:=ST.mk Tryz.underlying135 (by kernel_rfl) rfl (by omega) (by omega)
theorem litN5g {w:World} {g:Nat} (cs:Array Value) (e:TypeId) (hs:cs.size=5) (hg:w.heap.size=g):Sl (w.alloc (.cells cs e)) (g + 1) 5 (.slice (some ⟨g,0,none⟩) 1 1) 1 cs.toList:=by
 subst hg
 refine ⟨by simp [hs],some ⟨w.heap.size,0,none⟩,1,rfl,Nat.le_refl _,by simp [maxLen],fun _ => ⟨w.heap.size,0,rfl,by omega,fun j hj => ?_⟩⟩
 rw [Nat.zero_add]
 have hj':j < cs.size:=by omega
 simp [go_sem]
set_option maxRecDepth 20000 in
set_option maxHeartbeats 12800000 in
theorem book_List {w:World} {D:Nat→Prop} {p q S B n:Nat} {g:Nat→Nat→Pl} (h:BkAt w D p q S B n g) (hSB:S * B≤128) (hn:n≤8) :
  Calls Tryz.prog 100 #[.pointer (some ⟨p,0,none⟩)] w fun e w' => ∃ v,e=.returned v∧w'.ownsRow w.heap.size 142 5 v (bookL g n (S * B)).length (encs (bookL g n (S * B)))∧Below w.heap.size w w':=by
 obtain ⟨M,hM⟩:∃ M,M=S * B:=⟨_,rfl⟩
 obtain ⟨hp,hq0,hpq,_,_,_,⟨cap,c1,c2,s2⟩,hfz,hrows⟩:=h
 rw [← hM] at hSB c1 s2 hrows ⊢
 have HROWS:=Lib.hid hrows
 unfold maxLen at c2
 clear hM hrows hfz
 go_enter Tryz.func100,Tryz.ntmps100
 go_wp2
 go_loopw [3,15] (fun out i wr => ∃ k:Nat,k≤M∧i=.int .i64 k∧Hid (wr.ownsRow w.heap.size 142 5 out (bookL g n k).length (encs (bookL g n k)))∧Hid (Below w.heap.size w wr)) (fun _ i _ => M - (intOf i).toNat)
 case atStart => exact ⟨0,by omega,rfl,⟨by simp [bookL,encs],.inl ⟨rfl,rfl⟩⟩,Below.refl _ _⟩
 case round =>
  obtain ⟨k,hk,rfl,HO,HB⟩:=hrel
  by_cases hlt:k < M
  ·have g0:(0:Int)≤(k:Int):=Int.natCast_nonneg _
   have g1:(k:Int) < (M:Int):=by omega
   obtain ⟨v0,s3,A,cp,hv0,x1,x2,x3⟩:=HROWS.out k hlt
   subst hv0
   have HC:=Lib.hid x3
   unfold maxLen at x2
   have s3':wr.cell? ⟨q,k,none⟩=some (.slice A n cp):=(HB.out.cell (p:=⟨q,k,none⟩) hq0).trans s3
   have hle:=bookL_le g n k
   have hkn:k * n≤1024:=Nat.mul_le_mul (show k≤128 by omega) hn
   have HLE:Hid ((bookL g n k).length≤1024):=Nat.le_trans hle hkn
   obtain ⟨L,hL⟩:∃ L,L=bookL g n k:=⟨_,rfl⟩
   have HNX:Hid (bookL g n (k + 1)=L ++ usedL (g k) n):=by rw [hL]; rfl
   rw [← hL] at HO HLE
   clear hL hle hkn x3 s3
   go_wp2
   go_loopw [3,21] (fun out i wr => ∃ j:Nat,j≤n∧i=.int .i64 j∧Hid (wr.ownsRow w.heap.size 142 5 out (L ++ usedL (g k) j).length (encs (L ++ usedL (g k) j)))∧Hid (Below w.heap.size w wr)) (fun _ i _ => n - (intOf i).toNat)
   case atStart => exact ⟨0,by omega,rfl,by rw [show usedL (g k) 0=[] from rfl,List.append_nil]; exact HO,HB⟩
   case round =>
    obtain ⟨j,hj,rfl,HO2,HB2⟩:=hrel
    by_cases hjn:j < n
    ·obtain ⟨b,off,rfl,hb,_,hc⟩:=HC.out (by omega)
     have e0:(0:Int)≤(j:Int):=Int.natCast_nonneg _
     have e1:(j:Int) < (n:Int):=by omega
     have hcx:=(hc j hjn).keep (w':=wr) fun p hp => HB2.out.cell (by rw [hp]; omega)
     have hz:=HB2.out.size
     have HY:=Lib.hid (usedL_yes (f:=g k) (k:=j))
     have HN:=Lib.hid (usedL_no (f:=g k) (k:=j))
     have hul:=usedL_le (g k) j
     obtain ⟨U,hU⟩:∃ U,U=usedL (g k) j:=⟨_,rfl⟩
     rw [← hU] at HO2 HY HN hul
     have hlen:(L ++ U).length≤1032:=by rw [List.length_append]; have:=HLE.out; omega
     obtain ⟨c,hc2⟩:∃ c,c=(L ++ U).length:=⟨_,rfl⟩
     rw [← hc2] at HO2 hlen
     have HC2:=Lib.hid hc2
     clear hc2
     obtain ⟨x,hx⟩:∃ x,x=g k j:=⟨_,rfl⟩
     rw [← hx] at hcx HY HN
     clear hc HC hx hU hul HROWS
     obtain ⟨A3,cq,hout,_,_⟩:=(Sl.of_own HO2.out).form
     subst hout
     obtain ⟨u,⟨a,m,pt,st,s⟩⟩:=x
     obtain ⟨c0',c1',c2',c3',c4',c5'⟩:=hcx
     have c0:wr.cell? ⟨b,off + j * 6,none⟩=some (.bool u):=c0'
     have c1:wr.cell? ⟨b,off + j * 6 + 1,none⟩=some (.int .i64 a):=c1'
     have c2:wr.cell? ⟨b,off + j * 6 + 2,none⟩=some (.int .u64 (m:Int)):=c2'
     have c3:wr.cell? ⟨b,off + j * 6 + 3,none⟩=some (.int .i64 pt):=c3'
     have c4:wr.cell? ⟨b,off + j * 6 + 4,none⟩=some (.bool st):=c4'
     have c5:wr.cell? ⟨b,off + j * 6 + 5,none⟩=some (.int .u32 (s:Int)):=c5'
     clear c0' c1' c2' c3' c4' c5'
     cases u
     ·have HU:=HN.out rfl
      have HU2:=Lib.hid HU
      clear HY HN HU
      go_wp2
      go_roundw
      case rel => exact ⟨j + 1,by omega,by go_num,by rw [HU2.out,← HC2.out]; exact own_below HO2.out ((Below.refl _ _).alloc (Nat.le_refl _) _),HB2.out.alloc hz _⟩
      case measure => simp [intOf]; omega
     ·have HU:=HY.out rfl
      have HU2:=Lib.hid HU
      clear HY HN HU
      go_wp2_with (first
       | (at_builtin; refine wpList_apv _ rfl stEnts _ _ rfl w.heap.size _ c _ rfl (own_below HO2.out (((Below.refl wr.heap.size wr).alloc (Nat.le_refl _) (.cells #[.bool true,.int .i64 a,.int .u64 (m:Int),.int .i64 pt,.bool st,.int .u32 (s:Int)] 162)).alloc (by simp) (.cells #[.int .i64 a,.int .u64 (m:Int),.int .i64 pt,.bool st,.int .u32 (s:Int)] 142))) _ _ 1 [.int .i64 a,.int .u64 (m:Int),.int .i64 pt,.bool st,.int .u32 (s:Int)] rfl (litN5g (w:=wr.alloc (.cells #[.bool true,.int .i64 a,.int .u64 (m:Int),.int .i64 pt,.bool st,.int .u32 (s:Int)] 162)) (g:=wr.heap.size + 1) #[.int .i64 a,.int .u64 (m:Int),.int .i64 pt,.bool st,.int .u32 (s:Int)] _ rfl (by simp)) (by simp [Value.oneCell']) (by omega) (by go_size) ?_; intro A2 cc w9 hown2 hgr2 hat2 hbel2; clear hgr2 hat2))
      have HO3:Hid (w9.ownsRow w.heap.size 142 5 (.slice A2 (c + 1) cc) (L ++ (U ++ [(⟨a,m,pt,st,s⟩:En)])).length (encs (L ++ (U ++ [(⟨a,m,pt,st,s⟩:En)])))):=by
       have e1:(L ++ (U ++ [(⟨a,m,pt,st,s⟩:En)])).length=c + 1:=by rw [HC2.out]; simp; omega
       have e2:encs (L ++ (U ++ [(⟨a,m,pt,st,s⟩:En)]))=encs (L ++ U) ++ [.int .i64 a,.int .u64 (m:Int),.int .i64 pt,.bool st,.int .u32 (s:Int)]:=by
        rw [← List.append_assoc,encs_append,encs_one]; rfl
       rw [e1,e2]; exact hown2
      have HB3:Hid (Below w.heap.size w w9):=Below.trans (HB2.out.trans (Below.mono (((Below.refl wr.heap.size wr).alloc (Nat.le_refl _) _).alloc (by simp) _) hz)) hbel2
      clear hown2 hbel2
      go_wp2
      go_roundw
      case rel => exact ⟨j + 1,by omega,by go_num,by rw [HU2.out]; exact HO3,HB3⟩
      case measure => simp [intOf]; omega
    ·have hjn2:n=j:=by omega
     subst hjn2
     go_wp2
     go_roundw
     case rel => exact ⟨k + 1,by omega,by go_num,by rw [HNX.out]; exact HO2,HB2⟩
     case measure => simp [intOf]; omega
  ·have hkM:M=k:=by omega
   subst hkM
   go_wp2
   go_ret
   exact ⟨_,rfl,HO.out,HB.out⟩
end
section
open Go.RowKit
theorem stEntsR:ST Tryz.prog 137 139 (.agg #[.int .i64 0,.int .u64 0,.int .i64 0,.bool false,.int .u32 0]) 5 32:=ST.mk Tryz.underlying137 (by kernel_rfl) rfl (by omega) (by omega)
set_option maxHeartbeats 12800000 in
theorem ref11_List {w:World} {D:Nat→Prop} {p q S B n:Nat} {g:Nat→Nat→Pl} (h:BkAt w D p q S B n g) (hSB:S * B≤128) (hn:n≤8) :
  Calls Tryz.prog 63 #[.pointer (some ⟨p,0,none⟩)] w fun e w' => ∃ v,e=.returned v∧w'.ownsRow w.heap.size 139 5 v (bookL g n (S * B)).length (encs (bookL g n (S * B)))∧Below w.heap.size w w':=by
 obtain ⟨M,hM⟩:∃ M,M=S * B:=⟨_,rfl⟩
 obtain ⟨hp,hq0,hpq,_,_,_,⟨cap,c1,c2,s2⟩,hfz,hrows⟩:=h
 rw [← hM] at hSB c1 s2 hrows ⊢
 have HROWS:=Lib.hid hrows
 unfold maxLen at c2
 clear hM hrows hfz
 go_enter Tryz.func63,Tryz.ntmps63
 go_wp2
 go_loopw [3,4] (fun out i wr => ∃ k:Nat,k≤M∧i=.int .i64 k∧Hid (wr.ownsRow w.heap.size 139 5 out (bookL g n k).length (encs (bookL g n k)))∧Hid (Below w.heap.size w wr)) (fun _ i _ => M - (intOf i).toNat)
 case atStart => exact ⟨0,by omega,rfl,⟨by simp [bookL,encs],.inl ⟨rfl,rfl⟩⟩,Below.refl _ _⟩
 case round =>
  obtain ⟨k,hk,rfl,HO,HB⟩:=hrel
  have s2k:wr.cell? ⟨p,3,none⟩=some (.slice (some ⟨q,0,none⟩) M cap):=(HB.out.cell (p:=⟨p,3,none⟩) hp).trans s2
  by_cases hlt:k < M
  ·have g0:(0:Int)≤(k:Int):=Int.natCast_nonneg _
   have g1:(k:Int) < (M:Int):=by omega
   obtain ⟨v0,s3,A,cp,hv0,x1,x2,x3⟩:=HROWS.out k hlt
   subst hv0
   have HC:=Lib.hid x3
   unfold maxLen at x2
   have s3':wr.cell? ⟨q,k,none⟩=some (.slice A n cp):=(HB.out.cell (p:=⟨q,k,none⟩) hq0).trans s3
   have hle:=bookL_le g n k
   have hkn:k * n≤1024:=Nat.mul_le_mul (show k≤128 by omega) hn
   have HLE:Hid ((bookL g n k).length≤1024):=Nat.le_trans hle hkn
   obtain ⟨L,hL⟩:∃ L,L=bookL g n k:=⟨_,rfl⟩
   have HNX:Hid (bookL g n (k + 1)=L ++ usedL (g k) n):=by rw [hL]; rfl
   rw [← hL] at HO HLE
   clear hL hle hkn x3
   go_wp2
   go_loopw [3,5] (fun out i wr => ∃ j:Nat,j≤n∧i=.int .i64 j∧Hid (wr.ownsRow w.heap.size 139 5 out (L ++ usedL (g k) j).length (encs (L ++ usedL (g k) j)))∧Hid (Below w.heap.size w wr)) (fun _ i _ => n - (intOf i).toNat)
   case atStart => exact ⟨0,by omega,rfl,by rw [show usedL (g k) 0=[] from rfl,List.append_nil]; exact HO,HB⟩
   case round =>
    obtain ⟨j,hj,rfl,HO2,HB2⟩:=hrel
    have s2j:wr.cell? ⟨p,3,none⟩=some (.slice (some ⟨q,0,none⟩) M cap):=(HB2.out.cell (p:=⟨p,3,none⟩) hp).trans s2
    have s3j:wr.cell? ⟨q,k,none⟩=some (.slice A n cp):=(HB2.out.cell (p:=⟨q,k,none⟩) hq0).trans s3
    by_cases hjn:j < n
    ·obtain ⟨b,off,rfl,hb,_,hc⟩:=HC.out (by omega)
     have e0:(0:Int)≤(j:Int):=Int.natCast_nonneg _
     have e1:(j:Int) < (n:Int):=by omega
     have hcx:=(hc j hjn).keep (w':=wr) fun p hp => HB2.out.cell (by rw [hp]; omega)
     have hz:=HB2.out.size
     have HY:=Lib.hid (usedL_yes (f:=g k) (k:=j))
     have HN:=Lib.hid (usedL_no (f:=g k) (k:=j))
     have hul:=usedL_le (g k) j
     obtain ⟨U,hU⟩:∃ U,U=usedL (g k) j:=⟨_,rfl⟩
     rw [← hU] at HO2 HY HN hul
     have hlen:(L ++ U).length≤1032:=by rw [List.length_append]; have:=HLE.out; omega
     obtain ⟨c,hc2⟩:∃ c,c=(L ++ U).length:=⟨_,rfl⟩
     rw [← hc2] at HO2 hlen
     have HC2:=Lib.hid hc2
     clear hc2
     obtain ⟨x,hx⟩:∃ x,x=g k j:=⟨_,rfl⟩
     rw [← hx] at hcx HY HN
     clear hc HC hx hU hul HROWS
     obtain ⟨A3,cq,hout,_,_⟩:=(Sl.of_own HO2.out).form
     subst hout
     obtain ⟨u,⟨a,m,pt,st,s⟩⟩:=x
     obtain ⟨c0',c1',c2',c3',c4',c5'⟩:=hcx
     have c0:wr.cell? ⟨b,off + j * 6,none⟩=some (.bool u):=c0'
     have c1:wr.cell? ⟨b,off + j * 6 + 1,none⟩=some (.int .i64 a):=c1'
     have c2:wr.cell? ⟨b,off + j * 6 + 2,none⟩=some (.int .u64 (m:Int)):=c2'
     have c3:wr.cell? ⟨b,off + j * 6 + 3,none⟩=some (.int .i64 pt):=c3'
     have c4:wr.cell? ⟨b,off + j * 6 + 4,none⟩=some (.bool st):=c4'
     have c5:wr.cell? ⟨b,off + j * 6 + 5,none⟩=some (.int .u32 (s:Int)):=c5'
     clear c0' c1' c2' c3' c4' c5'
     cases u
     ·have HU:=HN.out rfl
      have HU2:=Lib.hid HU
      clear HY HN HU
      go_wp2
      go_roundw
      case rel => exact ⟨j + 1,by omega,by go_num,by rw [HU2.out,← HC2.out]; exact HO2.out,HB2.out⟩
      case measure => simp [intOf]; omega
     ·have HU:=HY.out rfl
      have HU2:=Lib.hid HU
      clear HY HN HU
      go_wp2_with (first
       | (at_builtin; refine wpList_apv _ rfl stEntsR _ _ rfl w.heap.size _ c _ rfl (own_below HO2.out ((Below.refl wr.heap.size wr).alloc (Nat.le_refl _) (.cells #[.int .i64 a,.int .u64 (m:Int),.int .i64 pt,.bool st,.int .u32 (s:Int)] 139))) _ _ 1 [.int .i64 a,.int .u64 (m:Int),.int .i64 pt,.bool st,.int .u32 (s:Int)] rfl (litN5g (w:=wr) (g:=wr.heap.size) #[.int .i64 a,.int .u64 (m:Int),.int .i64 pt,.bool st,.int .u32 (s:Int)] _ rfl rfl) (by simp [Value.oneCell']) (by omega) (by go_size) ?_; intro A2 cc w9 hown2 hgr2 hat2 hbel2; clear hgr2 hat2))
      have HO3:Hid (w9.ownsRow w.heap.size 139 5 (.slice A2 (c + 1) cc) (L ++ (U ++ [(⟨a,m,pt,st,s⟩:En)])).length (encs (L ++ (U ++ [(⟨a,m,pt,st,s⟩:En)])))):=by
       have e1:(L ++ (U ++ [(⟨a,m,pt,st,s⟩:En)])).length=c + 1:=by rw [HC2.out]; simp; omega
       have e2:encs (L ++ (U ++ [(⟨a,m,pt,st,s⟩:En)]))=encs (L ++ U) ++ [.int .i64 a,.int .u64 (m:Int),.int .i64 pt,.bool st,.int .u32 (s:Int)]:=by
        rw [← List.append_assoc,encs_append,encs_one]; rfl
       rw [e1,e2]; exact hown2
      have HB3:Hid (Below w.heap.size w w9):=Below.trans (HB2.out.trans (Below.mono ((Below.refl wr.heap.size wr).alloc (Nat.le_refl _) _) hz)) hbel2
      clear hown2 hbel2
      go_wp2
      go_roundw
      case rel => exact ⟨j + 1,by omega,by go_num,by rw [HU2.out]; exact HO3,HB3⟩
      case measure => simp [intOf]; omega
    ·have hjn2:n=j:=by omega
     subst hjn2
     go_wp2
     go_roundw
     case rel => exact ⟨k + 1,by omega,by go_num,by rw [HNX.out]; exact HO2,HB2⟩
     case measure => simp [intOf]; omega
  ·have hkM:M=k:=by omega
   subst hkM
   go_wp2
   go_ret
   exact ⟨_,rfl,HO.out,HB.out⟩
theorem encs_at {w:World} {B n:Nat} {v:Value} {L:List En} (h:Sl w B 5 v n (encs L)) (hL:L.length=n) (k:Nat) (hk:k < n):∃ (b off cap:Nat) (x:En),v=.slice (some ⟨b,off,none⟩) n cap∧n≤cap∧cap≤maxLen∧b < B∧L[k]?=some x ∧
  w.cell? ⟨b,off + k * 5,none⟩=some (.int .i64 x.vid)∧w.cell? ⟨b,off + k * 5 + 1,none⟩=some (.int .u64 (x.mac:Nat))∧w.cell? ⟨b,off + k * 5 + 2,none⟩=some (.int .i64 x.port)∧w.cell? ⟨b,off + k * 5 + 3,none⟩=some (.bool x.st)∧w.cell? ⟨b,off + k * 5 + 4,none⟩=some (.int .u32 (x.stamp:Nat)):=by
 obtain ⟨_,A,cap,rfl,h1,h2,h3⟩:=h
 obtain ⟨b,off,rfl,hb,hc⟩:=h3 (by omega)
 have hkl:k < L.length:=by omega
 have he:∀ (M:List En) (i:Nat) (hi:i < M.length) (j:Nat),j < 5→(encs M)[i * 5 + j]?=(enCells M[i])[j]?:=by
  intro M
  induction M with
  | nil => intro i hi; simp at hi
  | cons y r ih =>
   intro i hi j hj
   cases i with
   | zero =>
    show (enCells y ++ encs r)[0 * 5 + j]?=_
    rw [List.getElem?_append_left (by simp [enCells]; omega)]
    simp
   | succ i =>
    show (enCells y ++ encs r)[(i + 1) * 5 + j]?=_
    rw [List.getElem?_append_right (by simp [enCells]; omega)]
    have:=ih i (by simpa using hi) j hj
    rw [show (i + 1) * 5 + j - (enCells y).length=i * 5 + j by simp [enCells]; omega]
    simpa using this
 have hat:∀ j,j < 5→w.cell? ⟨b,off + k * 5 + j,none⟩=(enCells L[k])[j]?:=fun j hj => by
  rw [Nat.add_assoc,hc (k * 5 + j) (by omega)]
  exact he L k hkl j hj
 exact ⟨b,off,cap,L[k],rfl,h1,h2,hb,List.getElem?_eq_getElem hkl,hat 0 (by omega),hat 1 (by omega),hat 2 (by omega),hat 3 (by omega),hat 4 (by omega)⟩
set_option maxHeartbeats 1600000 in
theorem law11_Entries {L:List En} {n:Nat} {u v:Value} {w:World} {B B':Nat} (hL:L.length=n) (hu:Sl w B 5 u n (encs L)) (hv:Sl w B' 5 v n (encs L)) :
  Calls Tryz.prog 62 #[u,v] w (Quiet (.bool true) w):=by
 have hne:((n:Int) != (n:Int))=false:=by simp
 have HU:=Lib.hid hu
 have HV:=Lib.hid hv
 obtain ⟨A,cap,e1,q1,q2⟩:=hu.form
 subst e1
 obtain ⟨A',cap',e2,q3,q4⟩:=hv.form
 subst e2
 unfold maxLen at q2 q4
 have HL:=Lib.hid hL
 clear hu hv hL
 go_enter Tryz.func62,Tryz.ntmps62
 go_wp2
 clear hne
 go_loopw [5] (fun i wr => ∃ k:Nat,k≤n∧i=.int .i64 k∧∃ m,wr=w.drewN m) (fun i _ => n - (intOf i).toNat)
 case atStart => exact ⟨0,by omega,rfl,0,rfl⟩
 case round =>
  obtain ⟨k,hk,rfl,m,rfl⟩:=hrel
  by_cases hlt:k < n
  ·obtain ⟨b,off,cp,x,hv,_,_,hb,hx,hc⟩:=encs_at HU.out HL.out k hlt
   obtain ⟨b',off',cp',x',hv',_,_,hb',hx',hc'⟩:=encs_at HV.out HL.out k hlt
   have hxx:x'=x:=by rw [hx] at hx'; injection hx' with e; exact e.symm
   subst hxx
   injection hv with e1 _ e3
   injection hv' with e2 _ e4
   subst e1 e2 e3 e4
   obtain ⟨a,mm,pt,st,s⟩:=x'
   simp only at hc hc'
   obtain ⟨c0,c1,c2,c3,c4⟩:=hc
   obtain ⟨d0,d1,d2,d3,d4⟩:=hc'
   have g0:(0:Int)≤(k:Int):=Int.natCast_nonneg _
   have g1:(k:Int) < (n:Int):=by omega
   clear hx hx' HU HV hb hb'
   go_wp2_with fail
   go_quiet (fail)
   go_wp2
   go_roundw
   case rel => exact ⟨k + 1,by omega,by go_num,_,(by first | rfl | exact World.drewN_drewN _ _ _)⟩
   case measure => simp [intOf]; omega
  ·have:k=n:=by omega
   subst this
   go_wp2
   go_ret
   exact ⟨rfl,_,rfl⟩
end
end Go.Proofs.YtpcapdpglpgcbaaGreat
