/-
  Words and contracts that a statement's proof rests on (Kit2, Ticks, PlainBu, Turn, But). No statement is proved here.
-/
import Derived.Deep.OwnRows
import Derived.IntWalk
import Derived.Laws.Bits64
import Derived.Test.YthloabdfkakehaaGreatBase
import Derived.Test.YthloabdfkakehaaGreatPlainKy
import Derived.Test.YthloabdfkakehaaGreatKeep
set_option linter.unusedVariables false
set_option linter.unusedSimpArgs false
namespace Go.Proofs.YthloabdfkakehaaGreat
section
open Go.RowKit
theorem still0 {P:Program} {f:FuncId} {args:Array Value} {v:Value} (h:∀ W,Calls P f args W fun e w' => e=.returned v∧W=w') (w:World) (n:Nat) :
  Calls P f args (w.drewN n) fun e w' => e=.returned v∧∃ m,w'=w.drewN m:=(h _).mono fun _ _ hh => ⟨hh.1,n,hh.2.symm⟩
theorem still1 {P:Program} {f:FuncId} {args:Array Value} {v:Value} (h:∀ W,Calls P f args W fun e w' => e=.returned v∧W=w') (w:World) (a n:Nat) :
  Calls P f args (w.drewN (a + n)) fun e w' => e=.returned v∧∃ m,w'=w.drewN (a + m):=(h _).mono fun _ _ hh => ⟨hh.1,n,hh.2.symm⟩
end
section
open Go.RowKit
def distN (now t:Nat):Nat:=(now + 4294967296 - t) % 4294967296
def ageN (now t:Nat):Nat:=if distN now t < 2147483648 then distN now t else 0
def oldB (now t lim:Nat):Bool:=decide (lim < ageN now t)
theorem distN_lt (now t:Nat):distN now t < 4294967296:=Nat.mod_lt _ (by omega)
theorem ageN_in {now t:Nat} (h:distN now t < 2147483648):ageN now t=distN now t:=if_pos h
theorem ageN_out {now t:Nat} (h:¬ distN now t < 2147483648):ageN now t=0:=if_neg h
theorem wrap_dist {now t:Nat} (h:now < 4294967296) (ht:t < 4294967296):IntKind.u32.wrap ((now:Int) - (t:Int))=((distN now t:Nat):Int):=by
 rw [IntKind.wrap_u32]; unfold distN; omega
set_option maxHeartbeats 400000 in
theorem ticks_Age (now t:Nat) (hn:now < 4294967296) (ht:t < 4294967296) (w:World) :
  Calls Tryz.prog 150 #[.int .u32 (now:Int),.int .u32 (t:Int)] w fun e w' => e=.returned (.int .u32 (ageN now t:Nat))∧w=w':=by
 obtain ⟨x,hd⟩:∃ x,distN now t=x:=⟨_,rfl⟩
 have hw:=wrap_dist hn ht
 have hx:=distN_lt now t
 have hi:=@ageN_in now t
 have ho:=@ageN_out now t
 rw [hd] at hw hx hi ho
 clear hd
 by_cases h:¬ 2147483648≤(x:Int)
 ·rw [hi (by omega)]
  have hx':¬ 4294967296≤(x:Int):=by omega
  clear hi ho hx
  go_enter Tryz.func150,Tryz.ntmps150
  go_wp2
  go_ret
  exact ⟨rfl,rfl⟩
 ·rw [ho (by omega)]
  have hx':¬ 4294967296≤(x:Int):=by omega
  replace h:=Decidable.not_not.1 h
  clear hi ho hx
  go_enter Tryz.func150,Tryz.ntmps150
  go_wp2
  go_ret
  exact ⟨rfl,rfl⟩
set_option maxHeartbeats 400000 in
theorem ref4_Age (now t:Nat) (hn:now < 4294967296) (ht:t < 4294967296) (w:World) :
  Calls Tryz.prog 152 #[.int .u32 (now:Int),.int .u32 (t:Int)] w fun e w' => e=.returned (.int .u32 (ageN now t:Nat))∧w=w':=by
 obtain ⟨x,hd⟩:∃ x,distN now t=x:=⟨_,rfl⟩
 have hw:((now:Int) + 4294967296 - (t:Int)) % 4294967296=(distN now t:Int):=by unfold distN; omega
 have hx:=distN_lt now t
 have hi:=@ageN_in now t
 have ho:=@ageN_out now t
 rw [hd] at hw hx hi ho
 clear hd
 by_cases h:¬ 2147483648≤(x:Int)
 ·rw [hi (by omega)]
  have hx':¬ 4294967296≤(x:Int):=by omega
  clear hi ho hx
  have hv:IntKind.u32.wrap (x:Int)=(x:Int):=IntWalk.u32_in _ (by omega)
  go_enter Tryz.func152,Tryz.ntmps152
  go_wp2
  go_ret
  exact ⟨rfl,rfl⟩
 ·rw [ho (by omega)]
  have hx':¬ 4294967296≤(x:Int):=by omega
  replace h:=Decidable.not_not.1 h
  clear hi ho hx
  go_enter Tryz.func152,Tryz.ntmps152
  go_wp2
  go_ret
  exact ⟨rfl,rfl⟩
set_option maxHeartbeats 400000 in
theorem ticks_Old (now t lim:Nat) (hn:now < 4294967296) (ht:t < 4294967296) (w:World) :
  Calls Tryz.prog 138 #[.int .u32 (now:Int),.int .u32 (t:Int),.int .u32 (lim:Int)] w fun e w' => e=.returned (.bool (oldB now t lim))∧w=w':=by
 have hA:=Lib.hid fun W => ticks_Age now t hn ht W
 unfold oldB
 generalize ageN now t=x at *
 go_enter Tryz.func138,Tryz.ntmps138
 go_wp2_with fail
 refine (hA.out _).mono ?_
 rintro e w1 ⟨rfl,rfl⟩
 go_wp2
 go_ret
 exact ⟨ret_bool (by simp),rfl⟩
set_option maxHeartbeats 400000 in
theorem ref4_Old (now t lim:Nat) (hn:now < 4294967296) (ht:t < 4294967296) (w:World) :
  Calls Tryz.prog 142 #[.int .u32 (now:Int),.int .u32 (t:Int),.int .u32 (lim:Int)] w fun e w' => e=.returned (.bool (oldB now t lim))∧w=w':=by
 have hA:=Lib.hid fun W => ref4_Age now t hn ht W
 unfold oldB
 generalize ageN now t=x at *
 go_enter Tryz.func142,Tryz.ntmps142
 go_wp2_with fail
 refine (hA.out _).mono ?_
 rintro e w1 ⟨rfl,rfl⟩
 go_wp2
 go_ret
 exact ⟨ret_bool (by simp),rfl⟩
end
section
open Go.RowKit
structure Pl where
 used:Bool
 e:En
deriving DecidableEq
def pl0:Pl:=⟨false,en0⟩
def Pl.ok (x:Pl):Prop:=x.e.ok
def Pl.cells (x:Pl):List Value:=[.bool x.used,.int .i64 x.e.vid,.int .u64 (x.e.mac:Nat),.int .i64 x.e.port,.bool x.e.st,.int .u32 (x.e.stamp:Nat)]
def plc:List Pl→List Value
 | [] => []
 | x :: l => x.cells ++ plc l
theorem plc_append:∀ a b:List Pl,plc (a ++ b)=plc a ++ plc b
 | [],b => rfl
 | x :: a,b => by simp [plc,plc_append a b]
theorem plc_at:∀ (l:List Pl) (j f:Nat),f < 6→(plc l)[j * 6 + f]?=(l[j]?).bind fun x => x.cells[f]?
 | [],j,f,_ => by simp [plc]
 | x :: l,0,f,h => by
  rw [plc,List.getElem?_append_left (by simp [Pl.cells]; omega)]
  simp
 | x :: l,j + 1,f,h => by
  have:=plc_at l j f h
  rw [plc,List.getElem?_append_right (by simp [Pl.cells]; omega)]
  have e:(j + 1) * 6 + f - x.cells.length=j * 6 + f:=by simp [Pl.cells]; omega
  rw [e,this]
  simp
def plHolds (w:World) (b o:Nat) (x:Pl):Prop :=
 w.cell? ⟨b,o,none⟩=some (.bool x.used)∧w.cell? ⟨b,o + 1,none⟩=some (.int .i64 x.e.vid)∧w.cell? ⟨b,o + 2,none⟩=some (.int .u64 (x.e.mac:Nat))∧w.cell? ⟨b,o + 3,none⟩=some (.int .i64 x.e.port)∧w.cell? ⟨b,o + 4,none⟩=some (.bool x.e.st)∧w.cell? ⟨b,o + 5,none⟩=some (.int .u32 (x.e.stamp:Nat))
def rowP (f:Nat→Pl) (j:Nat):Value:=(f (j / 6)).cells.getD (j % 6) (.bool false)
def updP (f:Nat→Pl) (k:Nat) (p:Pl) (i:Nat):Pl:=if i=k then p else f i
theorem rowP_at (f:Nat→Pl) (k c:Nat) (hc:c < 6):rowP f (k * 6 + c)=(f k).cells.getD c (.bool false):=by
 unfold rowP
 rw [show (k * 6 + c) / 6=k by omega,show (k * 6 + c) % 6=c by omega]
theorem rowP_holds {w:World} {g M:Nat} {t:TypeId} {f:Nat→Pl} (h:w.rowIs g t (M * 6) (rowP f)) {k:Nat} (hk:k < M):plHolds w g (k * 6) (f k):=by
 have q:∀ c,c < 6→w.cell? ⟨g,k * 6 + c,none⟩=some ((f k).cells.getD c (.bool false)):=fun c hc => by
  rw [h.cell (show k * 6 + c < M * 6 by omega),rowP_at f k c hc]
 exact ⟨q 0 (by omega),q 1 (by omega),q 2 (by omega),q 3 (by omega),q 4 (by omega),q 5 (by omega)⟩
theorem rowP_upd (f:Nat→Pl) (G:Nat→Value) (k:Nat) (u:Bool) (v:Int) (m:Nat) (p:Int) (st:Bool) (s:Nat) (i:Nat) (hG:G i=rowP f i) :
  (if i=k * 6 + 5 then Value.int .u32 (s:Nat) else if i=k * 6 + 4 then .bool st else if i=k * 6 + 3 then .int .i64 p else if i=k * 6 + 2 then .int .u64 (m:Nat) else if i=k * 6 + 1 then .int .i64 v else if i=k * 6 then .bool u else G i)=rowP (updP f k ⟨u,⟨v,m,p,st,s⟩⟩) i:=by
 have e:i=i / 6 * 6 + i % 6:=by omega
 have hm:i % 6 < 6:=by omega
 by_cases hik:i / 6=k
 ·have hr:rowP (updP f k ⟨u,⟨v,m,p,st,s⟩⟩) i=(Pl.cells ⟨u,⟨v,m,p,st,s⟩⟩).getD (i % 6) (.bool false):=by
   unfold rowP updP; rw [if_pos hik]
  rw [hr]
  rcases (show i % 6=0 ∨ i % 6=1 ∨ i % 6=2 ∨ i % 6=3 ∨ i % 6=4 ∨ i % 6=5 by omega) with h | h | h | h | h | h <;> rw [h] <;> simp only [Pl.cells,List.getD_cons_zero,List.getD_cons_succ]
  ·rw [if_neg (by omega),if_neg (by omega),if_neg (by omega),if_neg (by omega),if_neg (by omega),if_pos (by omega)]
  ·rw [if_neg (by omega),if_neg (by omega),if_neg (by omega),if_neg (by omega),if_pos (by omega)]
  ·rw [if_neg (by omega),if_neg (by omega),if_neg (by omega),if_pos (by omega)]
  ·rw [if_neg (by omega),if_neg (by omega),if_pos (by omega)]
  ·rw [if_neg (by omega),if_pos (by omega)]
  ·rw [if_pos (by omega)]
 ·rw [if_neg (by omega),if_neg (by omega),if_neg (by omega),if_neg (by omega),if_neg (by omega),if_neg (by omega),hG]
  unfold rowP updP
  rw [if_neg hik]
theorem rowP_store {w:World} {g M:Nat} {t:TypeId} {f:Nat→Pl} (h:w.rowIs g t (M * 6) (rowP f)) (k:Nat) (u:Bool) (v:Int) (m:Nat) (p:Int) (st:Bool) (s:Nat) :
  ((((((w.setCell ⟨g,k * 6,none⟩ (.bool u)).setCell ⟨g,k * 6 + 1,none⟩ (.int .i64 v)).setCell ⟨g,k * 6 + 2,none⟩ (.int .u64 (m:Nat))).setCell ⟨g,k * 6 + 3,none⟩ (.int .i64 p)).setCell ⟨g,k * 6 + 4,none⟩ (.bool st)).setCell ⟨g,k * 6 + 5,none⟩ (.int .u32 (s:Nat))).rowIs g t (M * 6) (rowP (updP f k ⟨u,⟨v,m,p,st,s⟩⟩)) :=
 ((((((h.set _ _).set _ _).set _ _).set _ _).set _ _).set _ _).congr fun i _ => rowP_upd f (rowP f) k u v m p st s i rfl
def listP (f:Nat→Pl) (n:Nat):List Pl:=(List.range n).map f
def firstJ (f:Nat→Bool):Nat→Int
 | 0 => -1
 | k + 1 => if 0≤firstJ f k then firstJ f k else if f k=true then (k:Int) else -1
theorem firstJ_none (f:Nat→Bool):∀ k,(∀ i,i < k→f i=false)→firstJ f k=-1
 | 0,_ => rfl
 | k + 1,h => by
  rw [firstJ,firstJ_none f k fun i hi => h i (by omega),if_neg (by omega),h k (by omega)]
  rfl
theorem firstJ_at (f:Nat→Bool) (k:Nat) (h:∀ i,i < k→f i=false) (hk:f k=true):∀ n,k < n→firstJ f n=(k:Int)
 | 0,h0 => by omega
 | n + 1,h0 => by
  rw [firstJ]
  rcases Nat.lt_or_ge k n with h1 | h1
  ·rw [firstJ_at f k h hk n h1,if_pos (by omega)]
  ·obtain rfl:k=n:=by omega
   rw [firstJ_none f k h,if_neg (by omega),if_pos hk]
theorem firstJ_bd (f:Nat→Bool):∀ k,-1≤firstJ f k∧firstJ f k < k
 | 0 => by simp [firstJ]
 | k + 1 => by
  have:=firstJ_bd f k
  rw [firstJ]
  split
  ·omega
  ·split <;> omega
theorem firstJ_holds (f:Nat→Bool):∀ k,0≤firstJ f k→f (firstJ f k).toNat=true
 | 0 => by simp [firstJ]
 | k + 1 => by
  intro h
  rw [firstJ] at h ⊢
  split
  ·rename_i h1; exact firstJ_holds f k h1
  ·rename_i h1
   rw [if_neg h1] at h
   split
   ·rename_i h2; simpa using h2
   ·rename_i h2; rw [if_neg h2] at h; omega
def bestF (ok:Nat→Bool) (f:Nat→Nat):Nat→Int
 | 0 => -1
 | k + 1 => if ok k=true∧(bestF ok f k < 0 ∨ f (bestF ok f k).toNat < f k) then (k:Int) else bestF ok f k
theorem bestF_bd (ok:Nat→Bool) (f:Nat→Nat):∀ k,-1≤bestF ok f k∧bestF ok f k < k
 | 0 => by simp [bestF]
 | k + 1 => by
  have:=bestF_bd ok f k
  rw [bestF]
  split <;> omega
def ownP (p:Pl):Pl:=if p.used=true then p else pl0
def keyF (f:Nat→Pl) (v:Int) (m:Nat) (i:Nat):Bool:=(f i).used && ((f i).e.vid == v && (f i).e.mac == m)
def findF (f:Nat→Pl) (v:Int) (m n:Nat):Int:=firstJ (keyF f v m) n
def roomF (f:Nat→Pl) (now n:Nat):Int × Nat :=
 if 0≤firstJ (fun i => !(f i).used) n then (firstJ (fun i => !(f i).used) n,3)
 else if bestF (fun i => !(f i).e.st) (fun i => ageN now (f i).e.stamp) n < 0 then (-1,5)
 else (bestF (fun i => !(f i).e.st) (fun i => ageN now (f i).e.stamp) n,4)
def againE (o e:En):Nat:=if o=e ∨ (o.st=true∧e.st=false) then 0 else if e.st=false∧o.port=e.port then 1 else 2
def putF (f:Nat→Pl) (e:En) (now n:Nat):(Nat→Pl) × Nat :=
 if rightE e=false then (f,5)
 else if findF f e.vid e.mac n < 0 then
  (if (roomF f now n).1 < 0 then (f,5) else (updP f (roomF f now n).1.toNat ⟨true,e⟩,(roomF f now n).2))
 else if againE (f (findF f e.vid e.mac n).toNat).e e=0 then (f,0)
 else (updP f (findF f e.vid e.mac n).toNat ⟨true,e⟩,againE (f (findF f e.vid e.mac n).toNat).e e)
def dropF (f:Nat→Pl) (v:Int) (m n:Nat):(Nat→Pl) × Bool :=
 if findF f v m n < 0 then (f,false)
 else if (f (findF f v m n).toNat).e.st=true then (updP f (findF f v m n).toNat pl0,true) else (f,false)
def goesF (f:Nat→Pl) (g:En→Bool) (i:Nat):Bool:=(f i).used && !(f i).e.st && g (f i).e
def sweepF (f:Nat→Pl) (g:En→Bool) (i:Nat):Pl:=if goesF f g i=true then pl0 else f i
def goneF (f:Nat→Pl) (g:En→Bool):Nat→Nat
 | 0 => 0
 | k + 1 => goneF f g k + (if goesF f g k=true then 1 else 0)
theorem goneF_le (f:Nat→Pl) (g:En→Bool):∀ k,goneF f g k≤k
 | 0 => Nat.le_refl _
 | k + 1 => by
  have:=goneF_le f g k
  rw [goneF]
  split <;> omega
end
section
open Go.RowKit
def mixS (d c x:Int):Int:=IntKind.u64.wrap (bits .xor .u64 x (x / d) * c)
def mixZ (n:Int):Int:=mixS 134217728 10723151780598845931 (mixS 1073741824 13787848793156543929 (IntKind.u64.wrap (n + 11400714819323198485)))
def mixI (n:Int):Int:=bits .xor .u64 (mixZ n) (mixZ n / 2147483648)
theorem u64_wrap_bd (y:Int):0≤IntKind.u64.wrap y∧IntKind.u64.wrap y < 18446744073709551616:=by
 rw [IntKind.wrap_u64]; omega
theorem u64_tdiv (y d:Int) (hd:0 < d):IntKind.u64.wrap ((IntKind.u64.wrap y).tdiv d)=IntKind.u64.wrap y / d:=by
 obtain ⟨h0,h1⟩:=u64_wrap_bd y
 generalize IntKind.u64.wrap y=x at *
 rw [Int.tdiv_eq_ediv_of_nonneg h0,IntKind.wrap_u64]
 have h2:0≤x / d:=Int.ediv_nonneg h0 (by omega)
 have h3:x / d≤x:=Int.ediv_le_self _ h0
 omega
theorem mixI_bd (n:Int):0≤mixI n∧mixI n < 18446744073709551616:=by
 obtain ⟨h0,h1⟩:=u64_wrap_bd (bits .xor .u64 (mixS 1073741824 13787848793156543929 (IntKind.u64.wrap (n + 11400714819323198485))) (mixS 1073741824 13787848793156543929 (IntKind.u64.wrap (n + 11400714819323198485)) / 134217728) * 10723151780598845931)
 change 0≤mixZ n at h0
 change mixZ n < _ at h1
 unfold mixI
 generalize mixZ n=x at *
 obtain ⟨X,rfl⟩:=Int.eq_ofNat_of_zero_le h0
 have hX:X < 18446744073709551616:=by omega
 have:=xorShift_u64 X 2147483648 hX
 rw [show ((2147483648:Nat):Int)=2147483648 from rfl] at this
 rw [this]
 have h2:X ^^^ X / 2147483648 < 2 ^ 64:=Nat.xor_lt_two_pow (by omega) (by omega)
 omega
theorem turn_Mix (n:Int) (hn:0≤n∧n < 18446744073709551616) (w:World) :
  Calls Tryz.prog 130 #[.int .u64 n] w fun e w' => e=.returned (.int .u64 (mixI n))∧w=w':=by
 clear hn
 go_enter Tryz.func130,Tryz.ntmps130
 go_wp2
 go_ret
 exact ⟨rfl,rfl⟩
theorem ref7_Mix (n:Int) (hn:0≤n∧n < 18446744073709551616) (w:World) :
  Calls Tryz.prog 69 #[.int .u64 n] w fun e w' => e=.returned (.int .u64 (mixI n))∧w=w':=by
 clear hn
 go_enter Tryz.func69,Tryz.ntmps69
 go_wp2
 go_ret
 refine ⟨ret_u64 ?_,rfl⟩
 simp only [u64_tdiv _ 1073741824 (by decide),u64_tdiv _ 134217728 (by decide),u64_tdiv _ 2147483648 (by decide)]
 rfl
end
section
open Go.RowKit
structure But (q:Nat) (w w':World):Prop where
 below:Below q w w'
 rest:∀ b,b < w.heap.size→b ≠ q→w'.heap[b]?=w.heap[b]?
theorem But.of {q:Nat} {w w':World} (h:Below w.heap.size w w') (hq:q≤w.heap.size):But q w w':=⟨h.mono hq,fun b hb _ => h.block b hb⟩
theorem But.trans {q:Nat} {a b c:World} (h:But q a b) (k:But q b c):But q a c :=
 ⟨h.below.trans k.below,fun x hx hne => (k.rest x (Nat.lt_of_lt_of_le hx h.below.size) hne).trans (h.rest x hx hne)⟩
theorem But.cell {q:Nat} {w w':World} (h:But q w w') {p:Addr} (hp:p.block < w.heap.size) (hq:p.block ≠ q):w'.cell? p=w.cell? p :=
 World.cell?_of_block (w:=w) (h.rest p.block hp hq)
theorem But.frozen {q:Nat} {w w':World} (h:But q w w') {p:Addr} (hp:p.block < w.heap.size) (hq:p.block ≠ q):w'.frozen? p=w.frozen? p :=
 World.frozen?_of_block (w:=w) (h.rest p.block hp hq)
theorem But.set {q:Nat} {w:World} (o:Nat) (v:Value):But q w (w.setCell ⟨q,o,none⟩ v) :=
 ⟨(Below.refl q w).setCell (Nat.le_refl _) v,fun b _ hne => Below.heap_setCell _ _ _ _ hne⟩
end
end Go.Proofs.YthloabdfkakehaaGreat
