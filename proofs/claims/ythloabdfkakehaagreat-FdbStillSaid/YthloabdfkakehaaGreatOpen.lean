/-
  Words and contracts that a statement's proof rests on (Words, Row, KeyC, TicksB, BuQ, FgK, Open, OpenU). No statement is proved here.
-/
import Derived.Deep.OwnRows
import Derived.IntWalk
import Derived.Deep.Slices
import Derived.Deep.Fields
import Derived.ChangeSame
import Derived.Test.YthloabdfkakehaaGreatBase
import Derived.Test.YthloabdfkakehaaGreatPlainBu
import Derived.Test.YthloabdfkakehaaGreatKeep
import Derived.Test.YthloabdfkakehaaGreatKeyA
import Derived.Test.YthloabdfkakehaaGreatBuB
import Derived.Test.YthloabdfkakehaaGreatBuI
set_option linter.unusedVariables false
set_option linter.unusedSimpArgs false
namespace Go.Proofs.YthloabdfkakehaaGreat
section
open Go.RowKit Go.WideShapes Go.ChangeShapes
def kv (k:IntKind) (l:List Int):List Value:=l.map fun n => .int k n
section
variable {H:Type} {enc:TypeId × Value→H} {P:Program} {w:World} {held:Bool}
end
end
section
open Go.RowKit
theorem stInts:ST Tryz.prog 27 3 (.int .i64 0) 1 8:=ST.mk Tryz.underlying27 (by kernel_rfl) rfl (by omega) (by omega)
theorem rowIs_mk {w:World} {g M:Nat} {z:Value} {e:TypeId} (hz:z.cells=#[z]) (hg:w.heap.size=g):(w.alloc (.cells (mkC z 1 M) e)).rowIs g e M (fun _ => z):=by
 subst hg
 unfold mkC
 rw [hz,Nat.mul_one]
 exact World.rowIs_made w z M e
theorem rowIs_own {w:World} {B g M:Nat} {e:TypeId} {f:Nat→Value} (h:w.rowIs g e M f) (hB:B≤g) (hM:M≤maxLen):w.ownsRow B e 1 (.slice (some ⟨g,0,none⟩) M M) M ((List.range M).map f):=by
 obtain ⟨cs,h1,h2,h3⟩:=h
 refine own_full h1 hB h2 hM ?_
 apply List.ext_getElem
 ·simp [h2]
 ·intro i hi1 hi2
  simp at hi1 hi2
  have:=h3 i (by omega)
  rw [Array.getElem?_eq_getElem hi1] at this
  simp at this
  simp [this]
def Ints (l:List Int) (w:World) (e:Ending) (w':World):Prop :=
 ∃ A cap,e=.returned (.slice A l.length cap)∧Sl w' w'.heap.size 1 (.slice A l.length cap) l.length (kv .i64 l)∧Below w.heap.size w w'
theorem Ints.nil (w w':World) (h:Below w.heap.size w w'):Ints [] w (.returned (.slice none 0 0)) w':=⟨none,0,rfl,by simpa [kv] using Sl.nil _ _ _,h⟩
theorem Ints.row {w w':World} {g M:Nat} {e:TypeId} {f:Nat→Int} {l:List Int} (h:w'.rowIs g e M (fun j => .int .i64 (f j))) (hl:l=(List.range M).map f) (hM:M≤maxLen) (hb:Below w.heap.size w w') :
  Ints l w (.returned (.slice (some ⟨g,0,none⟩) M M)) w':=by
 have hlen:l.length=M:=by rw [hl]; simp
 refine ⟨some ⟨g,0,none⟩,M,by rw [hlen],?_,hb⟩
 rw [hlen]
 have:=Sl.of_own (rowIs_own h (Nat.zero_le _) hM)
 rw [hl]
 unfold kv
 rw [List.map_map]
 exact this
theorem kv_getElem? (κ:IntKind) (l:List Int) (k:Nat) (h:k < l.length):(kv κ l)[k]?=some (.int κ (l.getD k 0)):=by
 simp [kv,List.getD_eq_getElem?_getD,List.getElem?_eq_getElem h]
end
section
open Go.RowKit
set_option maxHeartbeats 400000 in
theorem law8_From (v m:Int) (w:World) :
  Calls Tryz.prog 125 #[.agg #[.int .i64 v,.int .u64 m]] w (Says (.agg #[.int .i64 v,.int .u64 m]) w):=by
 go_enter Tryz.func125,Tryz.ntmps125
 go_wp2
 exact bodyPost_ret (v:=.agg #[.int .i64 v,.int .u64 m]) (by simp [results,Tryz.results125,go_sem]) rfl ⟨rfl,(by (repeat' (first | (with_reducible exact Below.refl _ _) | (with_reducible assumption) | (with_reducible refine Below.setCell ?_ ?_ _) | (with_reducible refine Below.alloc ?_ ?_ _) | go_size)))⟩
theorem fix_vid (v:Int):wrap64 (1 + wrap64 ((IntKind.u64.wrap v).tmod 4094))=fixV v:=by
 rw [Int.tmod_eq_emod_of_nonneg (by rw [IntKind.wrap_u64]; omega),IntKind.wrap_u64]; unfold wrap64 fixV; omega
set_option maxHeartbeats 12800000 in
theorem ref8_Fix (v:Int) (m:Nat) (hm:m < 18446744073709551616) (w:World) :
  Calls Tryz.prog 20 #[.agg #[.int .i64 v,.int .u64 (m:Int)]] w (Says (.agg #[.int .i64 (fixV v),.int .u64 (fixM m:Nat)]) w):=by
 have hx:=fixV_lt v
 have hv:=fix_vid v
 have hL:m % 281474976710656 < 281474976710656:=Nat.mod_lt _ (by omega)
 have hf1:m % 281474976710656 / 1099511627776 % 2=1→m % 281474976710656 - 1099511627776=0→fixM m=1:=fun a b => by unfold fixM; rw [if_pos a,if_pos b]
 have hf2:m % 281474976710656 / 1099511627776 % 2=1→m % 281474976710656 - 1099511627776 ≠ 0→fixM m=m % 281474976710656 - 1099511627776:=fun a b => by unfold fixM; rw [if_pos a,if_neg b]
 have hf3:m % 281474976710656 / 1099511627776 % 2 ≠ 1→m % 281474976710656=0→fixM m=1:=fun a b => by unfold fixM; rw [if_neg a,if_pos b]
 have hf4:m % 281474976710656 / 1099511627776 % 2 ≠ 1→m % 281474976710656 ≠ 0→fixM m=m % 281474976710656:=fun a b => by unfold fixM; rw [if_neg a,if_neg b]
 have hlo:=fun W => ref_Low m W
 generalize fixM m=r at *
 generalize fixV v=x at *
 generalize m % 281474976710656=L at *
 have hby:=fun W => ref_Bytes L (by omega) W
 have hB0:L / 1099511627776 % 256=L / 1099511627776:=by omega
 have HLO:=Lib.hid hlo
 have HBY:=Lib.hid hby
 clear hlo hby
 rcases (show (L / 1099511627776 % 2=1∧L - 1099511627776=0) ∨ (L / 1099511627776 % 2=1∧L - 1099511627776 ≠ 0) ∨ (L / 1099511627776 % 2 ≠ 1∧L=0) ∨ (L / 1099511627776 % 2 ≠ 1∧L ≠ 0) by omega) with ⟨a,b⟩ | ⟨a,b⟩ | ⟨a,b⟩ | ⟨a,b⟩
 ·rw [hf1 a b]
  clear hf1 hf2 hf3 hf4 hm
  obtain ⟨q,hq⟩:∃ q,q=L / 1099511627776:=⟨_,rfl⟩
  have hql:q < 256:=by omega
  rw [← hq] at a
  have hodd:(q:Int) % 2=1:=by omega
  have hsub:IntKind.u64.wrap ((L:Int) - 1099511627776)=0:=by rw [IntKind.wrap_u64]; omega
  go_enter Tryz.func20,Tryz.ntmps20
  go_wp2_with fail
  refine (HLO.out _).mono ?_
  rintro e w1 ⟨rfl,rfl⟩
  go_wp2_with fail
  refine (HBY.out _).mono ?_
  rintro e w2 ⟨u,rfl,hown,hb⟩
  obtain ⟨g,cap,rfl,hg,_,hcp,c0,_⟩:=six hown
  rw [hB0,← hq] at c0
  clear hB0 hq a b
  obtain ⟨hc,hf⟩:=bcell hb
  have e0:w2.cell? ⟨w.heap.size,0,none⟩=some (.int .i64 x):=by rw [hc _ _ (by simp; omega)]; simp [go_sem]
  have e1:w2.cell? ⟨w.heap.size,1,none⟩=some (.int .u64 (L:Int)):=by rw [hc _ _ (by simp; omega)]; simp [go_sem]
  have e2:w2.cell? ⟨w.heap.size + 1,0,none⟩=some (.int .i64 0):=by rw [hc _ _ (by simp)]; simp [go_sem]
  have e3:w2.cell? ⟨w.heap.size + 1,1,none⟩=some (.int .u64 0):=by rw [hc _ _ (by simp)]; simp [go_sem]
  have k0:∀ o,w2.frozen? ⟨w.heap.size,o,none⟩=false:=fun o => by rw [hf _ _ (by simp; omega)]; simp [go_sem]
  have k1:∀ o,w2.frozen? ⟨w.heap.size + 1,o,none⟩=false:=fun o => by rw [hf _ _ (by simp)]; simp [go_sem]
  have hB1:Below w.heap.size w w2:=Below.trans (by (repeat' (first | (with_reducible exact Below.refl _ _) | (with_reducible refine Below.setCell ?_ ?_ _) | (with_reducible refine Below.alloc ?_ ?_ _) | go_size))) (hb.mono (by go_size))
  have hz1:w.heap.size + 2≤w2.heap.size:=by have:=hb.size; simp at this; omega
  clear hc hf hb hown hL hx hv HLO HBY
  generalize (L:Int)=Li at *
  go_wp2
  exact bodyPost_ret (v:=.agg #[.int .i64 x,.int .u64 1]) (by simp [results,Tryz.results20,go_sem,e2,e3]) rfl ⟨rfl,(by (repeat' (first | (with_reducible exact Below.refl _ _) | (with_reducible assumption) | (with_reducible refine Below.setCell ?_ ?_ _) | (with_reducible refine Below.alloc ?_ ?_ _) | go_size)))⟩
 ·rw [hf2 a b]
  clear hf1 hf2 hf3 hf4 hm
  obtain ⟨q,hq⟩:∃ q,q=L / 1099511627776:=⟨_,rfl⟩
  have hql:q < 256:=by omega
  rw [← hq] at a
  have hodd:(q:Int) % 2=1:=by omega
  obtain ⟨D,hD⟩:∃ D,D=L - 1099511627776:=⟨_,rfl⟩
  rw [← hD] at b ⊢
  have hsub:IntKind.u64.wrap ((L:Int) - 1099511627776)=(D:Int):=by rw [IntKind.wrap_u64]; omega
  have hne:¬ (D:Int)=0:=by omega
  go_enter Tryz.func20,Tryz.ntmps20
  go_wp2_with fail
  refine (HLO.out _).mono ?_
  rintro e w1 ⟨rfl,rfl⟩
  go_wp2_with fail
  refine (HBY.out _).mono ?_
  rintro e w2 ⟨u,rfl,hown,hb⟩
  obtain ⟨g,cap,rfl,hg,_,hcp,c0,_⟩:=six hown
  rw [hB0,← hq] at c0
  clear hB0 hq a b
  obtain ⟨hc,hf⟩:=bcell hb
  have e0:w2.cell? ⟨w.heap.size,0,none⟩=some (.int .i64 x):=by rw [hc _ _ (by simp; omega)]; simp [go_sem]
  have e1:w2.cell? ⟨w.heap.size,1,none⟩=some (.int .u64 (L:Int)):=by rw [hc _ _ (by simp; omega)]; simp [go_sem]
  have e2:w2.cell? ⟨w.heap.size + 1,0,none⟩=some (.int .i64 0):=by rw [hc _ _ (by simp)]; simp [go_sem]
  have e3:w2.cell? ⟨w.heap.size + 1,1,none⟩=some (.int .u64 0):=by rw [hc _ _ (by simp)]; simp [go_sem]
  have k0:∀ o,w2.frozen? ⟨w.heap.size,o,none⟩=false:=fun o => by rw [hf _ _ (by simp; omega)]; simp [go_sem]
  have k1:∀ o,w2.frozen? ⟨w.heap.size + 1,o,none⟩=false:=fun o => by rw [hf _ _ (by simp)]; simp [go_sem]
  have hB1:Below w.heap.size w w2:=Below.trans (by (repeat' (first | (with_reducible exact Below.refl _ _) | (with_reducible refine Below.setCell ?_ ?_ _) | (with_reducible refine Below.alloc ?_ ?_ _) | go_size))) (hb.mono (by go_size))
  have hz1:w.heap.size + 2≤w2.heap.size:=by have:=hb.size; simp at this; omega
  clear hc hf hb hown hL hx hv HLO HBY
  generalize (L:Int)=Li at *
  generalize (D:Int)=Di at *
  go_wp2
  exact bodyPost_ret (v:=.agg #[.int .i64 x,.int .u64 Di]) (by simp [results,Tryz.results20,go_sem,e2,e3]) rfl ⟨rfl,(by (repeat' (first | (with_reducible exact Below.refl _ _) | (with_reducible assumption) | (with_reducible refine Below.setCell ?_ ?_ _) | (with_reducible refine Below.alloc ?_ ?_ _) | go_size)))⟩
 ·rw [hf3 a b]
  clear hf1 hf2 hf3 hf4 hm
  obtain ⟨q,hq⟩:∃ q,q=L / 1099511627776:=⟨_,rfl⟩
  have hql:q < 256:=by omega
  rw [← hq] at a
  have hodd:(q:Int) % 2=0:=by omega
  have HZ:Hid ((L:Int)=0):=by show (L:Int)=0; omega
  clear b
  go_enter Tryz.func20,Tryz.ntmps20
  go_wp2_with fail
  refine (HLO.out _).mono ?_
  rintro e w1 ⟨rfl,rfl⟩
  go_wp2_with fail
  refine (HBY.out _).mono ?_
  rintro e w2 ⟨u,rfl,hown,hb⟩
  obtain ⟨g,cap,rfl,hg,_,hcp,c0,_⟩:=six hown
  rw [hB0,← hq] at c0
  clear hB0 hq a
  obtain ⟨hc,hf⟩:=bcell hb
  have e0:w2.cell? ⟨w.heap.size,0,none⟩=some (.int .i64 x):=by rw [hc _ _ (by simp; omega)]; simp [go_sem]
  have e1:w2.cell? ⟨w.heap.size,1,none⟩=some (.int .u64 (L:Int)):=by rw [hc _ _ (by simp; omega)]; simp [go_sem]
  have e2:w2.cell? ⟨w.heap.size + 1,0,none⟩=some (.int .i64 0):=by rw [hc _ _ (by simp)]; simp [go_sem]
  have e3:w2.cell? ⟨w.heap.size + 1,1,none⟩=some (.int .u64 0):=by rw [hc _ _ (by simp)]; simp [go_sem]
  have k0:∀ o,w2.frozen? ⟨w.heap.size,o,none⟩=false:=fun o => by rw [hf _ _ (by simp; omega)]; simp [go_sem]
  have k1:∀ o,w2.frozen? ⟨w.heap.size + 1,o,none⟩=false:=fun o => by rw [hf _ _ (by simp)]; simp [go_sem]
  have hB1:Below w.heap.size w w2:=Below.trans (by (repeat' (first | (with_reducible exact Below.refl _ _) | (with_reducible refine Below.setCell ?_ ?_ _) | (with_reducible refine Below.alloc ?_ ?_ _) | go_size))) (hb.mono (by go_size))
  have hz1:w.heap.size + 2≤w2.heap.size:=by have:=hb.size; simp at this; omega
  clear hc hf hb hown hL hx hv HLO HBY
  have hz:=HZ.out
  clear HZ
  generalize (L:Int)=Li at *
  go_wp2
  exact bodyPost_ret (v:=.agg #[.int .i64 x,.int .u64 1]) (by simp [results,Tryz.results20,go_sem,e2,e3]) rfl ⟨rfl,(by (repeat' (first | (with_reducible exact Below.refl _ _) | (with_reducible assumption) | (with_reducible refine Below.setCell ?_ ?_ _) | (with_reducible refine Below.alloc ?_ ?_ _) | go_size)))⟩
 ·rw [hf4 a b]
  clear hf1 hf2 hf3 hf4 hm
  obtain ⟨q,hq⟩:∃ q,q=L / 1099511627776:=⟨_,rfl⟩
  have hql:q < 256:=by omega
  rw [← hq] at a
  have hodd:(q:Int) % 2=0:=by omega
  have hne:¬ (L:Int)=0:=by omega
  go_enter Tryz.func20,Tryz.ntmps20
  go_wp2_with fail
  refine (HLO.out _).mono ?_
  rintro e w1 ⟨rfl,rfl⟩
  go_wp2_with fail
  refine (HBY.out _).mono ?_
  rintro e w2 ⟨u,rfl,hown,hb⟩
  obtain ⟨g,cap,rfl,hg,_,hcp,c0,_⟩:=six hown
  rw [hB0,← hq] at c0
  clear hB0 hq a b
  obtain ⟨hc,hf⟩:=bcell hb
  have e0:w2.cell? ⟨w.heap.size,0,none⟩=some (.int .i64 x):=by rw [hc _ _ (by simp; omega)]; simp [go_sem]
  have e1:w2.cell? ⟨w.heap.size,1,none⟩=some (.int .u64 (L:Int)):=by rw [hc _ _ (by simp; omega)]; simp [go_sem]
  have e2:w2.cell? ⟨w.heap.size + 1,0,none⟩=some (.int .i64 0):=by rw [hc _ _ (by simp)]; simp [go_sem]
  have e3:w2.cell? ⟨w.heap.size + 1,1,none⟩=some (.int .u64 0):=by rw [hc _ _ (by simp)]; simp [go_sem]
  have k0:∀ o,w2.frozen? ⟨w.heap.size,o,none⟩=false:=fun o => by rw [hf _ _ (by simp; omega)]; simp [go_sem]
  have k1:∀ o,w2.frozen? ⟨w.heap.size + 1,o,none⟩=false:=fun o => by rw [hf _ _ (by simp)]; simp [go_sem]
  have hB1:Below w.heap.size w w2:=Below.trans (by (repeat' (first | (with_reducible exact Below.refl _ _) | (with_reducible refine Below.setCell ?_ ?_ _) | (with_reducible refine Below.alloc ?_ ?_ _) | go_size))) (hb.mono (by go_size))
  have hz1:w.heap.size + 2≤w2.heap.size:=by have:=hb.size; simp at this; omega
  clear hc hf hb hown hL hx hv HLO HBY
  generalize (L:Int)=Li at *
  go_wp2
  exact bodyPost_ret (v:=.agg #[.int .i64 x,.int .u64 Li]) (by simp [results,Tryz.results20,go_sem,e2,e3]) rfl ⟨rfl,(by (repeat' (first | (with_reducible exact Below.refl _ _) | (with_reducible assumption) | (with_reducible refine Below.setCell ?_ ?_ _) | (with_reducible refine Below.alloc ?_ ?_ _) | go_size)))⟩
end
section
open Go.RowKit
end
section

end
section
open Go.RowKit
theorem law8_ToK (v m:Int) (w:World) :
  Calls Tryz.prog 22 #[.agg #[.int .i64 v,.int .u64 m]] w (Says (.agg #[.int .i64 v,.int .u64 m]) w):=by
 go_enter Tryz.func22,Tryz.ntmps22
 go_wp2
 exact bodyPost_ret (v:=.agg #[.int .i64 v,.int .u64 m]) (by simp [results,Tryz.results22,go_sem]) rfl ⟨rfl,(by (repeat' (first | (with_reducible exact Below.refl _ _) | (with_reducible assumption) | (with_reducible refine Below.setCell ?_ ?_ _) | (with_reducible refine Below.alloc ?_ ?_ _) | go_size)))⟩
end
section
open Go.ChangeShapes Go.WideShapes Go.RowKit Go.Deep
section
variable {H:Type} {enc:TypeId × Value→H} {P:Program} {w:World} {base:Nat} {spare:Nat→Bool} {held:Bool}
def Holds1 (enc:TypeId × Value→H) (P:Program) (w:World) (base:Nat) (spare:Nat→Bool) (held:Bool) (t:TypeId) (u:Value):Prop :=
 ∃ (n:Nat) (y:DataW H × List MemPlace),DataW.trod enc P w base spare held n t [u]=some y
theorem Holds1.int {k:IntKind} {t:TypeId} {u:Value} (h:Holds1 enc P w base spare held t u) (ht:P.underlying t=some (.int k)):∃ n,u=.int k n∧(Lit.int k n).wf=true:=by
 obtain ⟨m,y,hy⟩:=h
 obtain ⟨n,h1,_,h3⟩:=DataW.trod_int ht hy
 exact ⟨n,by simpa using h1,h3⟩
theorem Holds1.bool {t:TypeId} {u:Value} (h:Holds1 enc P w base spare held t u) (ht:P.underlying t=some .bool):∃ b,u=.bool b:=by
 obtain ⟨m,y,hy⟩:=h
 obtain ⟨n,h1,_⟩:=DataW.trod_bool ht hy
 exact ⟨n,by simpa using h1⟩
theorem Holds1.i64 {t:TypeId} {u:Value} (h:Holds1 enc P w base spare held t u) (ht:P.underlying t=some (.int .i64)):∃ n:Int,u=.int .i64 n∧-9223372036854775808≤n∧n≤9223372036854775807:=by
 obtain ⟨n,rfl,hw⟩:=h.int ht
 exact ⟨n,rfl,Go.bounds_i64 hw⟩
theorem Holds1.u64 {t:TypeId} {u:Value} (h:Holds1 enc P w base spare held t u) (ht:P.underlying t=some (.int .u64)):∃ n:Nat,u=.int .u64 (n:Int)∧n < 18446744073709551616:=by
 obtain ⟨n,rfl,hw⟩:=h.int ht
 have:=Go.bounds_u64 hw
 exact ⟨n.toNat,by congr 1; omega,by omega⟩
theorem Holds1.u32 {t:TypeId} {u:Value} (h:Holds1 enc P w base spare held t u) (ht:P.underlying t=some (.int .u32)):∃ n:Nat,u=.int .u32 (n:Int)∧n < 4294967296:=by
 obtain ⟨n,rfl,hw⟩:=h.int ht
 have:=Go.bounds_u32 hw
 exact ⟨n.toNat,by congr 1; omega,by omega⟩
theorem Holds1.bytes {t e:TypeId} {u:Value} (h:Holds1 enc P w 0 (fun _ => true) held t u) (ht:P.underlying t=some (.slice e)) (he:P.underlying e=some (.int .u8)) (hc:P.cellsOf e=1) :
  ∃ l:List Nat,Sl w w.heap.size 1 u l.length (bv l)∧∀ x ∈ l,x < 256:=by
 obtain ⟨fuel,y,hf⟩:=h
 rcases open_ints ht he hc hf with ⟨hcs,_⟩ | ⟨x,l,c,zs,hcs,_,hl,hm,hz,_,hcell,hwz⟩
 ·obtain rfl:u=.slice none 0 0:=by simpa using hcs
  exact ⟨[],Sl.nil _ _ _,by simp⟩
 ·obtain rfl:u=.slice (some x) l c:=by simpa using hcs
  simp only [if_true] at hz
  obtain ⟨ns,rfl,hns⟩:=nats_of_u8 zs hwz
  simp only [List.length_map] at hz hcell
  have hlen:(ns.take l).length=l:=by rw [List.length_take]; omega
  refine ⟨ns.take l,?_,fun x hx => hns x (List.mem_of_mem_take hx)⟩
  refine ⟨by simp [bv_length],some x,c,by rw [hlen],by omega,hm,fun hn => ?_⟩
  obtain ⟨b,off,spot⟩:=x
  have h0:=hcell 0 (by omega)
  have hspot:spot=none:=by simpa [Addr.add] using World.cell?_spot h0
  subst hspot
  refine ⟨b,off,rfl,World.block_lt_of_cell? w _ (by simpa [Addr.add] using h0),fun j hj => ?_⟩
  rw [hlen,Nat.mul_one] at hj
  have hj2:j < ns.length:=by omega
  have h1:=hcell j hj2
  have hadd:(⟨b,off,none⟩:Addr).add j=⟨b,off + j,none⟩:=by unfold Addr.add; split <;> simp_all
  rw [hadd] at h1
  rw [h1,bv_at _ _ (by rw [hlen]; exact hj)]
  simp [List.getD_eq_getElem?_getD,List.getElem?_map,List.getElem?_eq_getElem hj2]
end
end
section
open Go.ChangeShapes Go.WideShapes Go.RowKit Go.Deep
section
variable {H:Type} {enc:TypeId × Value→H} {P:Program} {w:World} {held:Bool}
theorem open_arr2 {base:Nat} {spare:Nat→Bool} {r:Reach} {b0:Nat} {t e:TypeId} {v:Value} {d:DataW H} {ps:List MemPlace} (ht:P.underlying t=some (.array 2 e)) (he:P.underlying e=some (.int .i64)) (hc:P.cellsOf e=1) (hct:P.cellsOf t=2)
  (hval:Value.okWide P w r b0 t v) (hd:DataW.Trod enc P w base spare held t v d ps) :
  ∃ x y:Int,v=.agg #[.int .i64 x,.int .i64 y]:=by
 simp only [Value.okWide,ht] at hval
 obtain ⟨cs,rfl,hsz,_⟩:=hval
 rw [hct] at hsz
 obtain ⟨l⟩:=cs
 match l,hsz with
 | [c0,c1],_ =>
  obtain ⟨fuel,hf⟩:=hd
  obtain ⟨xs,m,_,_,_,hxl,hg⟩:=DataW.trod_array ht hf
  have h0:=hg 0 (by omega)
  have h1:=hg 1 (by omega)
  rw [hc] at h0 h1
  rw [List.getElem?_eq_getElem (show 0 < xs.length by omega)] at h0
  rw [List.getElem?_eq_getElem (show 1 < xs.length by omega)] at h1
  have k0:Holds1 enc P w base spare held e c0:=⟨m,_,h0⟩
  have k1:Holds1 enc P w base spare held e c1:=⟨m,_,h1⟩
  obtain ⟨x,rfl,_⟩:=k0.i64 he
  obtain ⟨y,rfl,_⟩:=k1.i64 he
  exact ⟨x,y,rfl⟩
end
end
end Go.Proofs.YthloabdfkakehaaGreat
