/-
  Words and contracts that a statement's proof rests on (MoM). No statement is proved here.
-/
import Derived.Test.YtfekhdgjgjodlaaGreatMoH
import Derived.Test.YtfekhdgjgjodlaaGreatMoI
import Derived.Test.YtfekhdgjgjodlaaGreatMoP
set_option linter.unusedVariables false
set_option linter.unusedSimpArgs false
namespace Go.Proofs.YtfekhdgjgjodlaaGreat
open Go.RowKit
theorem setV_ok {lv:List Vl} (hok:∀ x ∈ lv,x.ok) (j:Nat) {y:Vl} (hy:y.ok):∀ x ∈ lv.set j y,x.ok:=fun x hx => by
 rcases List.mem_or_eq_of_mem_set hx with h | h
 ·exact hok x h
 ·rw [h]; exact hy
theorem port_nat {P:Nat} {p:Int} (h:portB P p=true):∃ k:Nat,p=k∧k < P:=by
 unfold portB at h
 simp only [Bool.and_eq_true,decide_eq_true_eq] at h
 exact ⟨p.toNat,by omega,by omega⟩
structure Ms where
 lv:List Vl
 st:Nat→Int × Nat
 g:Nat→Nat→Pl
 qs:Nat→Nat→List Int
structure Od where
 kd:Int
 po:Int
 tt:Int
 vi:Int
 sx:Int
 kv:Int
 km:Nat
 me:Nat
 un:Nat
 nw:Nat
 li:Nat
 sh:Int
 bu:Int
 id:Int
def Od.val (o:Od):Value:=opV o.kd o.po o.tt o.vi o.sx o.kv o.km o.me o.un o.nw o.li o.sh o.bu o.id
def Od.ok (o:Od):Prop:=(-9223372036854775808≤o.vi∧o.vi≤9223372036854775807)∧o.km < 18446744073709551616∧o.me < 18446744073709551616∧o.un < 18446744073709551616∧o.nw < 4294967296
def dA0 (P r S B n nv:Nat) (s:Ms) (o:Od):Int :=
 if portB P o.po=true then (s.st o.po.toNat).1 else -1
def dA1 (P r S B n nv:Nat) (s:Ms) (o:Od):Int :=
 membersI s.lv nv o.vi
def dA2 (P r S B n nv:Nat) (s:Ms) (o:Od):Int :=
 if portB P o.po=true then ((putF (fun i => ownP (s.g (homeN o.kv o.km S B) i)) ⟨o.kv,o.km,o.po,false,o.nw⟩ o.nw n).2:Nat) else -1
def dA3 (P r S B n nv:Nat) (s:Ms) (o:Od):Int :=
 portF (s.g (homeN o.kv o.km S B)) o.kv o.km n
def dA4 (P r S B n nv:Nat) (s:Ms) (o:Od):Int :=
 if portB P o.po=true then ((putF (fun i => ownP (s.g (homeN o.kv o.km S B) i)) ⟨o.kv,o.km,o.po,true,0⟩ o.nw n).2:Nat) else -1
def dA5 (P r S B n nv:Nat) (s:Ms) (o:Od):Int :=
 if (dropF (fun i => ownP (s.g (homeN o.kv o.km S B) i)) o.kv o.km n).2=true then 1 else 0
def dA6 (P r S B n nv:Nat) (s:Ms) (o:Od):Int :=
 if atI S B o.sh o.bu=-1 then 0 else (ageC s.g (atI S B o.sh o.bu).toNat o.nw o.li n:Nat)
def dA7 (P r S B n nv:Nat) (s:Ms) (o:Od):Int :=
 (flC o.po o.vi s.g n (S * B):Nat)
def dA8 (P r S B n nv:Nat) (s:Ms) (o:Od):Int :=
 if portB P o.po=true then if rightSt o.sx=true then (((s.st o.po.toNat).2 + 1) % 4294967296:Nat) else -1 else -1
def dA9 (P r S B n nv:Nat) (s:Ms) (o:Od):Int :=
 if findN s.lv o.vi nv < 0 then 0 else 1
def dA10 (P r S B n nv:Nat) (s:Ms) (o:Od):Int :=
 if portB P o.po=true then if portB P o.tt=true then if r≤(s.qs o.po.toNat o.tt.toNat).length then 0 else 1 else -1 else -1
def dA11 (P r S B n nv:Nat) (s:Ms) (o:Od):Int :=
 if portB P o.po=true then if portB P o.tt=true then (s.qs o.po.toNat o.tt.toNat).headD (-1) else -1 else -1
def dA12 (P r S B n nv:Nat) (s:Ms) (o:Od):Int :=
 if portB P o.tt=true then (sendK s.lv nv (s.st o.tt.toNat).1 o.tt.toNat o.vi:Nat) else -1
def dS2 (P r S B n nv:Nat) (s:Ms) (o:Od):Ms :=
 if portB P o.po=true then { s with g:=updR s.g (homeN o.kv o.km S B) (putF (fun i => ownP (s.g (homeN o.kv o.km S B) i)) ⟨o.kv,o.km,o.po,false,o.nw⟩ o.nw n).1 } else s
def dS4 (P r S B n nv:Nat) (s:Ms) (o:Od):Ms :=
 if portB P o.po=true then { s with g:=updR s.g (homeN o.kv o.km S B) (putF (fun i => ownP (s.g (homeN o.kv o.km S B) i)) ⟨o.kv,o.km,o.po,true,0⟩ o.nw n).1 } else s
def dS5 (P r S B n nv:Nat) (s:Ms) (o:Od):Ms :=
 { s with g:=updR s.g (homeN o.kv o.km S B) (dropF (fun i => ownP (s.g (homeN o.kv o.km S B) i)) o.kv o.km n).1 }
def dS6 (P r S B n nv:Nat) (s:Ms) (o:Od):Ms :=
 if atI S B o.sh o.bu=-1 then s else { s with g:=updR s.g (atI S B o.sh o.bu).toNat (ageR s.g (atI S B o.sh o.bu).toNat o.nw o.li) }
def dS7 (P r S B n nv:Nat) (s:Ms) (o:Od):Ms :=
 { s with g:=flG o.po o.vi s.g (S * B) }
def dS8 (P r S B n nv:Nat) (s:Ms) (o:Od):Ms :=
 if portB P o.po=true then if rightSt o.sx=true then { s with st:=updS s.st o.po.toNat o.sx (((s.st o.po.toNat).2 + 1) % 4294967296) } else s else s
def dS9 (P r S B n nv:Nat) (s:Ms) (o:Od):Ms :=
 if findN s.lv o.vi nv < 0 then s else { s with lv:=s.lv.set (findN s.lv o.vi nv).toNat ⟨o.vi,o.me &&& allN P,o.un &&& (o.me &&& allN P)⟩ }
def dS10 (P r S B n nv:Nat) (s:Ms) (o:Od):Ms :=
 if portB P o.po=true then if portB P o.tt=true then if r≤(s.qs o.po.toNat o.tt.toNat).length then s else { s with qs:=upd2 s.qs o.po.toNat o.tt.toNat (s.qs o.po.toNat o.tt.toNat ++ [o.id]) } else s else s
def dS11 (P r S B n nv:Nat) (s:Ms) (o:Od):Ms :=
 if portB P o.po=true then if portB P o.tt=true then if s.qs o.po.toNat o.tt.toNat=[] then s else { s with qs:=upd2 s.qs o.po.toNat o.tt.toNat (s.qs o.po.toNat o.tt.toNat).tail } else s else s
def doA (P r S B n nv:Nat) (s:Ms) (o:Od):Int :=
 if o.kd=0 then dA0 P r S B n nv s o
 else if o.kd=1 then dA1 P r S B n nv s o
 else if o.kd=2 then dA2 P r S B n nv s o
 else if o.kd=3 then dA3 P r S B n nv s o
 else if o.kd=4 then dA4 P r S B n nv s o
 else if o.kd=5 then dA5 P r S B n nv s o
 else if o.kd=6 then dA6 P r S B n nv s o
 else if o.kd=7 then dA7 P r S B n nv s o
 else if o.kd=8 then dA8 P r S B n nv s o
 else if o.kd=9 then dA9 P r S B n nv s o
 else if o.kd=10 then dA10 P r S B n nv s o
 else if o.kd=11 then dA11 P r S B n nv s o
 else if o.kd=12 then dA12 P r S B n nv s o
 else -1
def doS (P r S B n nv:Nat) (s:Ms) (o:Od):Ms :=
 if o.kd=2 then dS2 P r S B n nv s o
 else if o.kd=4 then dS4 P r S B n nv s o
 else if o.kd=5 then dS5 P r S B n nv s o
 else if o.kd=6 then dS6 P r S B n nv s o
 else if o.kd=7 then dS7 P r S B n nv s o
 else if o.kd=8 then dS8 P r S B n nv s o
 else if o.kd=9 then dS9 P r S B n nv s o
 else if o.kd=10 then dS10 P r S B n nv s o
 else if o.kd=11 then dS11 P r S B n nv s o
 else s
theorem doA_0 {P r S B n nv:Nat} {s:Ms} {o:Od} (h:o.kd=0):doA P r S B n nv s o=dA0 P r S B n nv s o:=by
 unfold doA
 rw [if_pos h]
theorem doA_1 {P r S B n nv:Nat} {s:Ms} {o:Od} (h:o.kd=1):doA P r S B n nv s o=dA1 P r S B n nv s o:=by
 unfold doA
 rw [if_neg (by rw [h]; decide)]
 rw [if_pos h]
theorem doA_2 {P r S B n nv:Nat} {s:Ms} {o:Od} (h:o.kd=2):doA P r S B n nv s o=dA2 P r S B n nv s o:=by
 unfold doA
 rw [if_neg (by rw [h]; decide)]
 rw [if_neg (by rw [h]; decide)]
 rw [if_pos h]
theorem doA_3 {P r S B n nv:Nat} {s:Ms} {o:Od} (h:o.kd=3):doA P r S B n nv s o=dA3 P r S B n nv s o:=by
 unfold doA
 rw [if_neg (by rw [h]; decide)]
 rw [if_neg (by rw [h]; decide)]
 rw [if_neg (by rw [h]; decide)]
 rw [if_pos h]
theorem doA_4 {P r S B n nv:Nat} {s:Ms} {o:Od} (h:o.kd=4):doA P r S B n nv s o=dA4 P r S B n nv s o:=by
 unfold doA
 rw [if_neg (by rw [h]; decide)]
 rw [if_neg (by rw [h]; decide)]
 rw [if_neg (by rw [h]; decide)]
 rw [if_neg (by rw [h]; decide)]
 rw [if_pos h]
theorem doA_5 {P r S B n nv:Nat} {s:Ms} {o:Od} (h:o.kd=5):doA P r S B n nv s o=dA5 P r S B n nv s o:=by
 unfold doA
 rw [if_neg (by rw [h]; decide)]
 rw [if_neg (by rw [h]; decide)]
 rw [if_neg (by rw [h]; decide)]
 rw [if_neg (by rw [h]; decide)]
 rw [if_neg (by rw [h]; decide)]
 rw [if_pos h]
theorem doA_6 {P r S B n nv:Nat} {s:Ms} {o:Od} (h:o.kd=6):doA P r S B n nv s o=dA6 P r S B n nv s o:=by
 unfold doA
 rw [if_neg (by rw [h]; decide)]
 rw [if_neg (by rw [h]; decide)]
 rw [if_neg (by rw [h]; decide)]
 rw [if_neg (by rw [h]; decide)]
 rw [if_neg (by rw [h]; decide)]
 rw [if_neg (by rw [h]; decide)]
 rw [if_pos h]
theorem doA_7 {P r S B n nv:Nat} {s:Ms} {o:Od} (h:o.kd=7):doA P r S B n nv s o=dA7 P r S B n nv s o:=by
 unfold doA
 rw [if_neg (by rw [h]; decide)]
 rw [if_neg (by rw [h]; decide)]
 rw [if_neg (by rw [h]; decide)]
 rw [if_neg (by rw [h]; decide)]
 rw [if_neg (by rw [h]; decide)]
 rw [if_neg (by rw [h]; decide)]
 rw [if_neg (by rw [h]; decide)]
 rw [if_pos h]
theorem doA_8 {P r S B n nv:Nat} {s:Ms} {o:Od} (h:o.kd=8):doA P r S B n nv s o=dA8 P r S B n nv s o:=by
 unfold doA
 rw [if_neg (by rw [h]; decide)]
 rw [if_neg (by rw [h]; decide)]
 rw [if_neg (by rw [h]; decide)]
 rw [if_neg (by rw [h]; decide)]
 rw [if_neg (by rw [h]; decide)]
 rw [if_neg (by rw [h]; decide)]
 rw [if_neg (by rw [h]; decide)]
 rw [if_neg (by rw [h]; decide)]
 rw [if_pos h]
theorem doA_9 {P r S B n nv:Nat} {s:Ms} {o:Od} (h:o.kd=9):doA P r S B n nv s o=dA9 P r S B n nv s o:=by
 unfold doA
 rw [if_neg (by rw [h]; decide)]
 rw [if_neg (by rw [h]; decide)]
 rw [if_neg (by rw [h]; decide)]
 rw [if_neg (by rw [h]; decide)]
 rw [if_neg (by rw [h]; decide)]
 rw [if_neg (by rw [h]; decide)]
 rw [if_neg (by rw [h]; decide)]
 rw [if_neg (by rw [h]; decide)]
 rw [if_neg (by rw [h]; decide)]
 rw [if_pos h]
theorem doA_10 {P r S B n nv:Nat} {s:Ms} {o:Od} (h:o.kd=10):doA P r S B n nv s o=dA10 P r S B n nv s o:=by
 unfold doA
 rw [if_neg (by rw [h]; decide)]
 rw [if_neg (by rw [h]; decide)]
 rw [if_neg (by rw [h]; decide)]
 rw [if_neg (by rw [h]; decide)]
 rw [if_neg (by rw [h]; decide)]
 rw [if_neg (by rw [h]; decide)]
 rw [if_neg (by rw [h]; decide)]
 rw [if_neg (by rw [h]; decide)]
 rw [if_neg (by rw [h]; decide)]
 rw [if_neg (by rw [h]; decide)]
 rw [if_pos h]
theorem doA_11 {P r S B n nv:Nat} {s:Ms} {o:Od} (h:o.kd=11):doA P r S B n nv s o=dA11 P r S B n nv s o:=by
 unfold doA
 rw [if_neg (by rw [h]; decide)]
 rw [if_neg (by rw [h]; decide)]
 rw [if_neg (by rw [h]; decide)]
 rw [if_neg (by rw [h]; decide)]
 rw [if_neg (by rw [h]; decide)]
 rw [if_neg (by rw [h]; decide)]
 rw [if_neg (by rw [h]; decide)]
 rw [if_neg (by rw [h]; decide)]
 rw [if_neg (by rw [h]; decide)]
 rw [if_neg (by rw [h]; decide)]
 rw [if_neg (by rw [h]; decide)]
 rw [if_pos h]
theorem doA_12 {P r S B n nv:Nat} {s:Ms} {o:Od} (h:o.kd=12):doA P r S B n nv s o=dA12 P r S B n nv s o:=by
 unfold doA
 rw [if_neg (by rw [h]; decide)]
 rw [if_neg (by rw [h]; decide)]
 rw [if_neg (by rw [h]; decide)]
 rw [if_neg (by rw [h]; decide)]
 rw [if_neg (by rw [h]; decide)]
 rw [if_neg (by rw [h]; decide)]
 rw [if_neg (by rw [h]; decide)]
 rw [if_neg (by rw [h]; decide)]
 rw [if_neg (by rw [h]; decide)]
 rw [if_neg (by rw [h]; decide)]
 rw [if_neg (by rw [h]; decide)]
 rw [if_neg (by rw [h]; decide)]
 rw [if_pos h]
theorem doS_0 {P r S B n nv:Nat} {s:Ms} {o:Od} (h:o.kd=0):doS P r S B n nv s o=s:=by
 unfold doS
 rw [if_neg (by rw [h]; decide)]
 rw [if_neg (by rw [h]; decide)]
 rw [if_neg (by rw [h]; decide)]
 rw [if_neg (by rw [h]; decide)]
 rw [if_neg (by rw [h]; decide)]
 rw [if_neg (by rw [h]; decide)]
 rw [if_neg (by rw [h]; decide)]
 rw [if_neg (by rw [h]; decide)]
 rw [if_neg (by rw [h]; decide)]
theorem doS_1 {P r S B n nv:Nat} {s:Ms} {o:Od} (h:o.kd=1):doS P r S B n nv s o=s:=by
 unfold doS
 rw [if_neg (by rw [h]; decide)]
 rw [if_neg (by rw [h]; decide)]
 rw [if_neg (by rw [h]; decide)]
 rw [if_neg (by rw [h]; decide)]
 rw [if_neg (by rw [h]; decide)]
 rw [if_neg (by rw [h]; decide)]
 rw [if_neg (by rw [h]; decide)]
 rw [if_neg (by rw [h]; decide)]
 rw [if_neg (by rw [h]; decide)]
theorem doS_2 {P r S B n nv:Nat} {s:Ms} {o:Od} (h:o.kd=2):doS P r S B n nv s o=dS2 P r S B n nv s o:=by
 unfold doS
 rw [if_pos h]
theorem doS_3 {P r S B n nv:Nat} {s:Ms} {o:Od} (h:o.kd=3):doS P r S B n nv s o=s:=by
 unfold doS
 rw [if_neg (by rw [h]; decide)]
 rw [if_neg (by rw [h]; decide)]
 rw [if_neg (by rw [h]; decide)]
 rw [if_neg (by rw [h]; decide)]
 rw [if_neg (by rw [h]; decide)]
 rw [if_neg (by rw [h]; decide)]
 rw [if_neg (by rw [h]; decide)]
 rw [if_neg (by rw [h]; decide)]
 rw [if_neg (by rw [h]; decide)]
theorem doS_4 {P r S B n nv:Nat} {s:Ms} {o:Od} (h:o.kd=4):doS P r S B n nv s o=dS4 P r S B n nv s o:=by
 unfold doS
 rw [if_neg (by rw [h]; decide)]
 rw [if_pos h]
theorem doS_5 {P r S B n nv:Nat} {s:Ms} {o:Od} (h:o.kd=5):doS P r S B n nv s o=dS5 P r S B n nv s o:=by
 unfold doS
 rw [if_neg (by rw [h]; decide)]
 rw [if_neg (by rw [h]; decide)]
 rw [if_pos h]
theorem doS_6 {P r S B n nv:Nat} {s:Ms} {o:Od} (h:o.kd=6):doS P r S B n nv s o=dS6 P r S B n nv s o:=by
 unfold doS
 rw [if_neg (by rw [h]; decide)]
 rw [if_neg (by rw [h]; decide)]
 rw [if_neg (by rw [h]; decide)]
 rw [if_pos h]
theorem doS_7 {P r S B n nv:Nat} {s:Ms} {o:Od} (h:o.kd=7):doS P r S B n nv s o=dS7 P r S B n nv s o:=by
 unfold doS
 rw [if_neg (by rw [h]; decide)]
 rw [if_neg (by rw [h]; decide)]
 rw [if_neg (by rw [h]; decide)]
 rw [if_neg (by rw [h]; decide)]
 rw [if_pos h]
theorem doS_8 {P r S B n nv:Nat} {s:Ms} {o:Od} (h:o.kd=8):doS P r S B n nv s o=dS8 P r S B n nv s o:=by
 unfold doS
 rw [if_neg (by rw [h]; decide)]
 rw [if_neg (by rw [h]; decide)]
 rw [if_neg (by rw [h]; decide)]
 rw [if_neg (by rw [h]; decide)]
 rw [if_neg (by rw [h]; decide)]
 rw [if_pos h]
theorem doS_9 {P r S B n nv:Nat} {s:Ms} {o:Od} (h:o.kd=9):doS P r S B n nv s o=dS9 P r S B n nv s o:=by
 unfold doS
 rw [if_neg (by rw [h]; decide)]
 rw [if_neg (by rw [h]; decide)]
 rw [if_neg (by rw [h]; decide)]
 rw [if_neg (by rw [h]; decide)]
 rw [if_neg (by rw [h]; decide)]
 rw [if_neg (by rw [h]; decide)]
 rw [if_pos h]
theorem doS_10 {P r S B n nv:Nat} {s:Ms} {o:Od} (h:o.kd=10):doS P r S B n nv s o=dS10 P r S B n nv s o:=by
 unfold doS
 rw [if_neg (by rw [h]; decide)]
 rw [if_neg (by rw [h]; decide)]
 rw [if_neg (by rw [h]; decide)]
 rw [if_neg (by rw [h]; decide)]
 rw [if_neg (by rw [h]; decide)]
 rw [if_neg (by rw [h]; decide)]
 rw [if_neg (by rw [h]; decide)]
 rw [if_pos h]
theorem doS_11 {P r S B n nv:Nat} {s:Ms} {o:Od} (h:o.kd=11):doS P r S B n nv s o=dS11 P r S B n nv s o:=by
 unfold doS
 rw [if_neg (by rw [h]; decide)]
 rw [if_neg (by rw [h]; decide)]
 rw [if_neg (by rw [h]; decide)]
 rw [if_neg (by rw [h]; decide)]
 rw [if_neg (by rw [h]; decide)]
 rw [if_neg (by rw [h]; decide)]
 rw [if_neg (by rw [h]; decide)]
 rw [if_neg (by rw [h]; decide)]
 rw [if_pos h]
theorem doS_12 {P r S B n nv:Nat} {s:Ms} {o:Od} (h:o.kd=12):doS P r S B n nv s o=s:=by
 unfold doS
 rw [if_neg (by rw [h]; decide)]
 rw [if_neg (by rw [h]; decide)]
 rw [if_neg (by rw [h]; decide)]
 rw [if_neg (by rw [h]; decide)]
 rw [if_neg (by rw [h]; decide)]
 rw [if_neg (by rw [h]; decide)]
 rw [if_neg (by rw [h]; decide)]
 rw [if_neg (by rw [h]; decide)]
 rw [if_neg (by rw [h]; decide)]
theorem doA_X {P r S B n nv:Nat} {s:Ms} {o:Od} (h:o.kd < 0 ∨ 12 < o.kd):doA P r S B n nv s o=-1:=by
 unfold doA
 rw [if_neg (by omega)]
 rw [if_neg (by omega)]
 rw [if_neg (by omega)]
 rw [if_neg (by omega)]
 rw [if_neg (by omega)]
 rw [if_neg (by omega)]
 rw [if_neg (by omega)]
 rw [if_neg (by omega)]
 rw [if_neg (by omega)]
 rw [if_neg (by omega)]
 rw [if_neg (by omega)]
 rw [if_neg (by omega)]
 rw [if_neg (by omega)]
theorem doS_X {P r S B n nv:Nat} {s:Ms} {o:Od} (h:o.kd < 0 ∨ 12 < o.kd):doS P r S B n nv s o=s:=by
 unfold doS
 rw [if_neg (by omega)]
 rw [if_neg (by omega)]
 rw [if_neg (by omega)]
 rw [if_neg (by omega)]
 rw [if_neg (by omega)]
 rw [if_neg (by omega)]
 rw [if_neg (by omega)]
 rw [if_neg (by omega)]
 rw [if_neg (by omega)]
section
variable {E:Nat→Prop} {w:World} {L A S1 Q bp bq P r S B n nv:Nat} {uv:Value} {G:Nat→Value} {R:Nat→Nat} {qv:Nat→Nat→Value} {s s':Ms} {a:Int} {o:Od}
def Ms.good (s:Ms):Prop:=stG s.g∧∀ x ∈ s.lv,x.ok
def DoneA (E:Nat→Prop) (w:World) (L A S1 Q bp bq P r S B n nv:Nat) (uv:Value) (G:Nat→Value) (R:Nat→Nat) (s':Ms) (a:Int) (e:Ending) (w':World):Prop :=
 ∃ qv',e=.returned (.int .i64 a)∧MdAll E w' L A S1 Q bp bq P r S B n nv uv s'.lv s'.st s'.g G R qv' s'.qs∧s'.good∧MdFr E w w' L
theorem DoneA.quiet (h:MdAll E w L A S1 Q bp bq P r S B n nv uv s.lv s.st s.g G R qv s.qs) (hg:s.good) (hs:s'=s) {v:Int} (ha:a=v) {e:Ending} {w':World} (he:Says (.int .i64 v) w e w'):DoneA E w L A S1 Q bp bq P r S B n nv uv G R s' a e w':=by
 obtain ⟨rfl,hb⟩:=he
 rw [hs,ha]
 exact ⟨qv,rfl,h.call hb,hg,MdFr.quiet h hb⟩
theorem DoneA.of {v:Int} (hs:doS P r S B n nv s o=s') (ha:doA P r S B n nv s o=v) {e:Ending} {w':World} (h:DoneA E w L A S1 Q bp bq P r S B n nv uv G R s' v e w'):DoneA E w L A S1 Q bp bq P r S B n nv uv G R (doS P r S B n nv s o) (doA P r S B n nv s o) e w':=by
 rw [hs,ha]; exact h
theorem at_nat {S B:Nat} {sh bu:Int} (ha:atI S B sh bu ≠ -1):∃ Hh:Nat,atI S B sh bu=(Hh:Int)∧Hh < S * B:=by
 unfold atI at ha ⊢
 by_cases hc:0≤sh∧sh < S∧0≤bu∧bu < B
 ·rw [if_pos hc]
  obtain ⟨s',hs'⟩:∃ x:Nat,sh=x:=⟨sh.toNat,by omega⟩
  obtain ⟨b',hb'⟩:∃ x:Nat,bu=x:=⟨bu.toNat,by omega⟩
  subst hs' hb'
  exact ⟨s' * B + b',by simp,at_lt (by omega) (by omega)⟩
 ·rw [if_neg hc] at ha
  exact absurd rfl ha
theorem model_DoAll (h:MdAll E w L A S1 Q bp bq P r S B n nv uv s.lv s.st s.g G R qv s.qs) (hP:P≤64) (hr:r≤64) (hS:1≤S∧S≤8) (hB:1≤B∧B≤16) (hn:1≤n∧n≤8) (hg:s.good) (o:Od) (ho:o.ok) :
  Calls Tryz.prog 58 #[.pointer (some ⟨A,0,none⟩),o.val] w (DoneA E w L A S1 Q bp bq P r S B n nv uv G R (doS P r S B n nv s o) (doA P r S B n nv s o)):=by
 obtain ⟨kd,po,tt,vi,sx,kv,km,me,un,nw,li,sh,bu,id⟩:=o
 obtain ⟨hvi,hkm,hme,hun,hnw⟩:=ho
 simp only at hvi hkm hme hun hnw
 unfold Od.val
 simp only
 have hst:=hg.1
 have hok:=hg.2
 have hst':∀ i,i < S * B→∀ j,j < n→(s.g i j).e.stamp < 4294967296:=fun i _ j _ => hst i j
 by_cases hk:kd < 0 ∨ 12 < kd
 ·refine (model_DoX h kd hk po tt vi sx kv km me un nw li sh bu id).mono fun e w' he => DoneA.quiet h hg (doS_X hk) (doA_X hk) he
 ·rcases (show kd=0 ∨ kd=1 ∨ kd=2 ∨ kd=3 ∨ kd=4 ∨ kd=5 ∨ kd=6 ∨ kd=7 ∨ kd=8 ∨ kd=9 ∨ kd=10 ∨ kd=11 ∨ kd=12 by omega) with rfl | rfl | rfl | rfl | rfl | rfl | rfl | rfl | rfl | rfl | rfl | rfl | rfl
  ·by_cases hp:portB P po=true
   ·obtain ⟨p,rfl,hpl⟩:=port_nat hp
    exact (model_DoState h p hpl tt vi sx kv km me un nw li sh bu id).mono fun e w' he => DoneA.quiet h hg (doS_0 rfl) (by exact (doA_0 rfl).trans (if_pos hp)) he
   ·exact (model_Do0Bad h po tt (by simpa using hp) vi sx kv km me un nw li sh bu id).mono fun e w' he => DoneA.quiet h hg (doS_0 rfl) (by exact (doA_0 rfl).trans (if_neg hp)) he
  ·exact (model_Do1 h po tt vi sx kv km me un nw li sh bu id).mono fun e w' he => DoneA.quiet h hg (doS_1 rfl) (by exact (doA_1 rfl).trans rfl) he
  ·by_cases hp:portB P po=true
   ·obtain ⟨p,rfl,hpl⟩:=port_nat hp
    refine (model_Do2 h hS hB hn hst' p hpl kv km hkm nw hnw tt vi sx me un li sh bu id).mono fun e w' he => DoneA.of (by exact (doS_2 rfl).trans ((if_pos hp))) (by exact (doA_2 rfl).trans ((if_pos hp))) ?_
    obtain ⟨rfl,hm,hb⟩:=he
    exact ⟨qv,rfl,hm,⟨updR_st hst (put_st (own_st (hst _)) (hnw)) _,hok⟩,hb⟩
   ·exact (model_Do2Bad h po tt (by simpa using hp) vi sx kv km me un nw li sh bu id).mono fun e w' he => DoneA.quiet h hg (by exact (doS_2 rfl).trans (if_neg hp)) (by exact (doA_2 rfl).trans (if_neg hp)) he
  ·exact (model_Do3 h hS hB hn kv km hkm po tt vi sx me un nw li sh bu id).mono fun e w' he => DoneA.quiet h hg (doS_3 rfl) (by exact (doA_3 rfl).trans rfl) he
  ·by_cases hp:portB P po=true
   ·obtain ⟨p,rfl,hpl⟩:=port_nat hp
    refine (model_Do4 h hS hB hn hst' p hpl kv km hkm nw hnw tt vi sx me un li sh bu id).mono fun e w' he => DoneA.of (by exact (doS_4 rfl).trans ((if_pos hp))) (by exact (doA_4 rfl).trans ((if_pos hp))) ?_
    obtain ⟨rfl,hm,hb⟩:=he
    exact ⟨qv,rfl,hm,⟨updR_st hst (put_st (own_st (hst _)) (by show (0:Nat) < _; omega)) _,hok⟩,hb⟩
   ·exact (model_Do4Bad h po tt (by simpa using hp) vi sx kv km me un nw li sh bu id).mono fun e w' he => DoneA.quiet h hg (by exact (doS_4 rfl).trans (if_neg hp)) (by exact (doA_4 rfl).trans (if_neg hp)) he
  ·refine (model_Do5 h hS hB hn kv km hkm po tt vi sx me un nw li sh bu id).mono fun e w' he => DoneA.of (by exact (doS_5 rfl).trans rfl) (by exact (doA_5 rfl).trans rfl) ?_
   obtain ⟨rfl,hm,hb⟩:=he
   exact ⟨qv,rfl,hm,⟨updR_st hst (drop_st (own_st (hst _))) _,hok⟩,hb⟩
  ·by_cases ha:atI S B sh bu=-1
   ·exact (model_Do6No h hS hB hn sh bu ha po tt vi sx kv km me un nw li id).mono fun e w' he => DoneA.quiet h hg (by exact (doS_6 rfl).trans (if_pos ha)) (by exact (doA_6 rfl).trans (if_pos ha)) he
   ·obtain ⟨Hh,hh1,hh2⟩:=at_nat ha
    refine (model_Do6 h hS hB hn hst' nw hnw li sh bu Hh hh2 hh1 po tt vi sx kv km me un id).mono fun e w' he => DoneA.of (by exact (doS_6 rfl).trans ((if_neg ha))) (by exact (doA_6 rfl).trans ((if_neg ha))) ?_
    simp only
    rw [hh1,Int.toNat_natCast]
    obtain ⟨rfl,hm,hb⟩:=he
    exact ⟨qv,rfl,hm,⟨updR_st hst (sweep_st (own_st (hst _))) _,hok⟩,hb⟩
  ·refine (model_Do7 h hS hB hn po tt vi sx kv km me un nw li sh bu id).mono fun e w' he => DoneA.of (by exact (doS_7 rfl).trans rfl) (by exact (doA_7 rfl).trans rfl) ?_
   obtain ⟨rfl,hm,hb⟩:=he
   exact ⟨qv,rfl,hm,⟨doG_st 6 0 0 po vi 0 0 S B n s.g hst (by omega),hok⟩,hb⟩
  ·by_cases hp:portB P po=true
   ·obtain ⟨p,rfl,hpl⟩:=port_nat hp
    by_cases hx:rightSt sx=true
    ·refine (model_Do8 h hP p hpl sx hx tt vi kv km me un nw li sh bu id).mono fun e w' he => DoneA.of (by exact (doS_8 rfl).trans (((if_pos hp).trans (if_pos hx)))) (by exact (doA_8 rfl).trans (((if_pos hp).trans (if_pos hx)))) ?_
     obtain ⟨rfl,hm,hb⟩:=he
     exact ⟨qv,rfl,hm,⟨hst,hok⟩,hb⟩
    ·exact (model_Do8No h p hpl sx (by simpa using hx) tt vi kv km me un nw li sh bu id).mono fun e w' he => DoneA.quiet h hg (by exact (doS_8 rfl).trans ((if_pos hp).trans (if_neg hx))) (by exact (doA_8 rfl).trans ((if_pos hp).trans (if_neg hx))) he
   ·exact (model_Do8Bad h po tt (by simpa using hp) vi sx kv km me un nw li sh bu id).mono fun e w' he => DoneA.quiet h hg (by exact (doS_8 rfl).trans (if_neg hp)) (by exact (doA_8 rfl).trans (if_neg hp)) he
  ·by_cases hneg:findN s.lv vi nv < 0
   ·exact (model_Do9No h vi hneg me un po tt sx kv km nw li sh bu id).mono fun e w' he => DoneA.quiet h hg (by exact (doS_9 rfl).trans (if_pos hneg)) (by exact (doA_9 rfl).trans (if_pos hneg)) he
   ·refine (model_Do9 h vi me un hme hun (findN s.lv vi nv).toNat (by omega) po tt sx kv km nw li sh bu id).mono fun e w' he => DoneA.of (by exact (doS_9 rfl).trans ((if_neg hneg))) (by exact (doA_9 rfl).trans ((if_neg hneg))) ?_
    obtain ⟨rfl,hm,hb⟩:=he
    exact ⟨qv,rfl,hm,⟨hst,setV_ok hok _ ⟨hvi,Nat.lt_of_le_of_lt Nat.and_le_left hme,Nat.lt_of_le_of_lt Nat.and_le_left hun⟩⟩,hb⟩
  ·by_cases hp:portB P po=true
   ·by_cases hp2:portB P tt=true
    ·obtain ⟨i,rfl,hi⟩:=port_nat hp
     obtain ⟨j,rfl,hj⟩:=port_nat hp2
     by_cases hf:r≤(s.qs i j).length
     ·exact (model_Do10No h i j hi hj hf vi sx kv km me un nw li sh bu id).mono fun e w' he => DoneA.quiet h hg (by exact (doS_10 rfl).trans (((if_pos hp).trans (if_pos hp2)).trans (if_pos hf))) (by exact (doA_10 rfl).trans (((if_pos hp).trans (if_pos hp2)).trans (if_pos hf))) he
     ·refine (model_Do10 h i j hi hj hP hr (by omega) vi sx kv km me un nw li sh bu id).mono fun e w' he => DoneA.of (by exact (doS_10 rfl).trans ((((if_pos hp).trans (if_pos hp2)).trans (if_neg hf)))) (by exact (doA_10 rfl).trans ((((if_pos hp).trans (if_pos hp2)).trans (if_neg hf)))) ?_
      obtain ⟨rfl,⟨qv',hm⟩,hb⟩:=he
      exact ⟨qv',rfl,hm,⟨hst,hok⟩,hb⟩
    ·exact (model_Do10Bad2 h po tt hp (by simpa using hp2) vi sx kv km me un nw li sh bu id).mono fun e w' he => DoneA.quiet h hg (by exact (doS_10 rfl).trans ((if_pos hp).trans (if_neg hp2))) (by exact (doA_10 rfl).trans ((if_pos hp).trans (if_neg hp2))) he
   ·exact (model_Do10Bad1 h po tt (by simpa using hp) vi sx kv km me un nw li sh bu id).mono fun e w' he => DoneA.quiet h hg (by exact (doS_10 rfl).trans (if_neg hp)) (by exact (doA_10 rfl).trans (if_neg hp)) he
  ·by_cases hp:portB P po=true
   ·by_cases hp2:portB P tt=true
    ·obtain ⟨i,rfl,hi⟩:=port_nat hp
     obtain ⟨j,rfl,hj⟩:=port_nat hp2
     rcases hql:s.qs i j with _ | ⟨x,l⟩
     ·exact (model_Do11No h i j hi hj hql vi sx kv km me un nw li sh bu id).mono fun e w' he => DoneA.quiet h hg (by exact (doS_11 rfl).trans (((if_pos hp).trans (if_pos hp2)).trans (if_pos hql))) (by exact (doA_11 rfl).trans (((if_pos hp).trans (if_pos hp2)).trans (by show (s.qs i j).headD (-1)=-1; rw [hql]; rfl))) he
     ·refine (model_Do11 h i j hi hj x l hql vi sx kv km me un nw li sh bu id).mono fun e w' he => DoneA.of (s':={ s with qs:=upd2 s.qs i j l }) (by exact (doS_11 rfl).trans ((((if_pos hp).trans (if_pos hp2)).trans ((if_neg (by show ¬ s.qs i j=[]; rw [hql]; exact List.cons_ne_nil _ _)).trans (by show Ms.mk _ _ _ (upd2 s.qs i j (s.qs i j).tail)=_; rw [hql]; rfl))))) (by exact (doA_11 rfl).trans ((((if_pos hp).trans (if_pos hp2)).trans (by show (s.qs i j).headD (-1)=x; rw [hql]; rfl)))) ?_
      obtain ⟨rfl,⟨qv',hm⟩,hb⟩:=he
      exact ⟨qv',rfl,hm,⟨hst,hok⟩,hb⟩
    ·exact (model_Do11Bad2 h po tt hp (by simpa using hp2) vi sx kv km me un nw li sh bu id).mono fun e w' he => DoneA.quiet h hg (by exact (doS_11 rfl).trans ((if_pos hp).trans (if_neg hp2))) (by exact (doA_11 rfl).trans ((if_pos hp).trans (if_neg hp2))) he
   ·exact (model_Do11Bad1 h po tt (by simpa using hp) vi sx kv km me un nw li sh bu id).mono fun e w' he => DoneA.quiet h hg (by exact (doS_11 rfl).trans (if_neg hp)) (by exact (doA_11 rfl).trans (if_neg hp)) he
  ·by_cases hp:portB P tt=true
   ·obtain ⟨p,rfl,hpl⟩:=port_nat hp
    exact (model_Do12 h hok p hpl po vi sx kv km me un nw li sh bu id).mono fun e w' he => DoneA.quiet h hg (doS_12 rfl) (by exact (doA_12 rfl).trans (if_pos hp)) he
   ·exact (model_Do12Bad h po tt (by simpa using hp) vi sx kv km me un nw li sh bu id).mono fun e w' he => DoneA.quiet h hg (doS_12 rfl) (by exact (doA_12 rfl).trans (if_neg hp)) he
end
end Go.Proofs.YtfekhdgjgjodlaaGreat
