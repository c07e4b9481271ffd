/-
  Words and contracts that a statement's proof rests on (MoM). No statement is proved here.
-/
import Derived.Test.YtfekhdgjgjodlaaGreatMoH
import Derived.Test.YtfekhdgjgjodlaaGreatMoI
import Derived.Test.YtfekhdgjgjodlaaGreatSrB
set_option linter.unusedVariables false
set_option linter.unusedSimpArgs false
namespace Go.Proofs.YtfekhdgjgjodlaaGreat
open Go.RowKit
theorem zpp {lv:List Vl} (hok:∀ x∈lv,x.ok) (j:Nat) {y:Vl} (hy:y.ok):∀ x∈lv.set j y,x.ok:=fun x hx=>by
 rcases List.mem_or_eq_of_mem_set hx with h|h
 ·exact hok x h
 ·rw [h];exact hy
theorem zay {P:Nat} {p:Int} (h:zah P p=true):∃ k:Nat,p=k/\k<P:=by
 unfold zah at h
 simp only [Bool.and_eq_true,decide_eq_true_eq] at h
 exact ⟨p.toNat,by omega,by omega⟩
structure Ms where
 lv:List Vl
 st:Nat->Int×Nat
 g:Nat->Nat->Pl
 qs:Nat->Nat->List Int
structure Od where
 kd:Int
 po:Int
 tt:Int
 vi:Int
 sx:Int
 kv:Int
 km:Nat
 me:Nat
 un:Nat
 nw:Nat
 li:Nat
 sh:Int
 bu:Int
 id:Int
def Od.val (o:Od):Value:=opV o.kd o.po o.tt o.vi o.sx o.kv o.km o.me o.un o.nw o.li o.sh o.bu o.id
def Od.ok (o:Od):Prop:=(-9223372036854775808<=o.vi/\o.vi<=9223372036854775807)/\o.km<18446744073709551616/\o.me<18446744073709551616/\o.un<18446744073709551616/\o.nw<4294967296
def dA0 (P r S B n nv:Nat) (s:Ms) (o:Od):Int :=
 if zah P o.po=true then (s.st o.po.toNat).1 else -1
def dA1 (P r S B n nv:Nat) (s:Ms) (o:Od):Int :=
 zer s.lv nv o.vi
def dA2 (P r S B n nv:Nat) (s:Ms) (o:Od):Int :=
 if zah P o.po=true then ((putF (fun i=>ownP (s.g (zaj o.kv o.km S B) i)) ⟨o.kv,o.km,o.po,false,o.nw⟩ o.nw n).2:Nat) else -1
def dA3 (P r S B n nv:Nat) (s:Ms) (o:Od):Int :=
 zd2 (s.g (zaj o.kv o.km S B)) o.kv o.km n
def dA4 (P r S B n nv:Nat) (s:Ms) (o:Od):Int :=
 if zah P o.po=true then ((putF (fun i=>ownP (s.g (zaj o.kv o.km S B) i)) ⟨o.kv,o.km,o.po,true,0⟩ o.nw n).2:Nat) else -1
def dA5 (P r S B n nv:Nat) (s:Ms) (o:Od):Int :=
 if (zbv (fun i=>ownP (s.g (zaj o.kv o.km S B) i)) o.kv o.km n).2=true then 1 else 0
def dA6 (P r S B n nv:Nat) (s:Ms) (o:Od):Int :=
 if atI S B o.sh o.bu=-1 then 0 else (ageC s.g (atI S B o.sh o.bu).toNat o.nw o.li n:Nat)
def dA7 (P r S B n nv:Nat) (s:Ms) (o:Od):Int :=
 (flC o.po o.vi s.g n (S*B):Nat)
def dA8 (P r S B n nv:Nat) (s:Ms) (o:Od):Int :=
 if zah P o.po=true then if zau o.sx=true then (((s.st o.po.toNat).2+1) % 4294967296:Nat) else -1 else -1
def dA9 (P r S B n nv:Nat) (s:Ms) (o:Od):Int :=
 if zax s.lv o.vi nv<0 then 0 else 1
def dA10 (P r S B n nv:Nat) (s:Ms) (o:Od):Int :=
 if zah P o.po=true then if zah P o.tt=true then if r<=(s.qs o.po.toNat o.tt.toNat).length then 0 else 1 else -1 else -1
def dA11 (P r S B n nv:Nat) (s:Ms) (o:Od):Int :=
 if zah P o.po=true then if zah P o.tt=true then (s.qs o.po.toNat o.tt.toNat).headD (-1) else -1 else -1
def dA12 (P r S B n nv:Nat) (s:Ms) (o:Od):Int :=
 if zah P o.tt=true then (zff s.lv nv (s.st o.tt.toNat).1 o.tt.toNat o.vi:Nat) else -1
def dS2 (P r S B n nv:Nat) (s:Ms) (o:Od):Ms :=
 if zah P o.po=true then { s with g:=updR s.g (zaj o.kv o.km S B) (putF (fun i=>ownP (s.g (zaj o.kv o.km S B) i)) ⟨o.kv,o.km,o.po,false,o.nw⟩ o.nw n).1 } else s
def dS4 (P r S B n nv:Nat) (s:Ms) (o:Od):Ms :=
 if zah P o.po=true then { s with g:=updR s.g (zaj o.kv o.km S B) (putF (fun i=>ownP (s.g (zaj o.kv o.km S B) i)) ⟨o.kv,o.km,o.po,true,0⟩ o.nw n).1 } else s
def dS5 (P r S B n nv:Nat) (s:Ms) (o:Od):Ms :=
 { s with g:=updR s.g (zaj o.kv o.km S B) (zbv (fun i=>ownP (s.g (zaj o.kv o.km S B) i)) o.kv o.km n).1 }
def dS6 (P r S B n nv:Nat) (s:Ms) (o:Od):Ms :=
 if atI S B o.sh o.bu=-1 then s else { s with g:=updR s.g (atI S B o.sh o.bu).toNat (ageR s.g (atI S B o.sh o.bu).toNat o.nw o.li) }
def dS7 (P r S B n nv:Nat) (s:Ms) (o:Od):Ms :=
 { s with g:=flG o.po o.vi s.g (S*B) }
def dS8 (P r S B n nv:Nat) (s:Ms) (o:Od):Ms :=
 if zah P o.po=true then if zau o.sx=true then { s with st:=updS s.st o.po.toNat o.sx (((s.st o.po.toNat).2+1) % 4294967296) } else s else s
def dS9 (P r S B n nv:Nat) (s:Ms) (o:Od):Ms :=
 if zax s.lv o.vi nv<0 then s else { s with lv:=s.lv.set (zax s.lv o.vi nv).toNat ⟨o.vi,o.me &&& allN P,o.un &&& (o.me &&& allN P)⟩ }
def dS10 (P r S B n nv:Nat) (s:Ms) (o:Od):Ms :=
 if zah P o.po=true then if zah P o.tt=true then if r<=(s.qs o.po.toNat o.tt.toNat).length then s else { s with qs:=upd2 s.qs o.po.toNat o.tt.toNat (s.qs o.po.toNat o.tt.toNat ++ [o.id]) } else s else s
def dS11 (P r S B n nv:Nat) (s:Ms) (o:Od):Ms :=
 if zah P o.po=true then if zah P o.tt=true then if s.qs o.po.toNat o.tt.toNat=[] then s else { s with qs:=upd2 s.qs o.po.toNat o.tt.toNat (s.qs o.po.toNat o.tt.toNat).tail } else s else s
def doA (P r S B n nv:Nat) (s:Ms) (o:Od):Int :=
 if o.kd=0 then dA0 P r S B n nv s o
 else if o.kd=1 then dA1 P r S B n nv s o
 else if o.kd=2 then dA2 P r S B n nv s o
 else if o.kd=3 then dA3 P r S B n nv s o
 else if o.kd=4 then dA4 P r S B n nv s o
 else if o.kd=5 then dA5 P r S B n nv s o
 else if o.kd=6 then dA6 P r S B n nv s o
 else if o.kd=7 then dA7 P r S B n nv s o
 else if o.kd=8 then dA8 P r S B n nv s o
 else if o.kd=9 then dA9 P r S B n nv s o
 else if o.kd=10 then dA10 P r S B n nv s o
 else if o.kd=11 then dA11 P r S B n nv s o
 else if o.kd=12 then dA12 P r S B n nv s o
 else -1
def doS (P r S B n nv:Nat) (s:Ms) (o:Od):Ms :=
 if o.kd=2 then dS2 P r S B n nv s o
 else if o.kd=4 then dS4 P r S B n nv s o
 else if o.kd=5 then dS5 P r S B n nv s o
 else if o.kd=6 then dS6 P r S B n nv s o
 else if o.kd=7 then dS7 P r S B n nv s o
 else if o.kd=8 then dS8 P r S B n nv s o
 else if o.kd=9 then dS9 P r S B n nv s o
 else if o.kd=10 then dS10 P r S B n nv s o
 else if o.kd=11 then dS11 P r S B n nv s o
 else s
theorem doA_0 {P r S B n nv:Nat} {s:Ms} {o:Od} (h:o.kd=0):doA P r S B n nv s o=dA0 P r S B n nv s o:=by
 unfold doA;rw [if_pos h]
theorem doA_1 {P r S B n nv:Nat} {s:Ms} {o:Od} (h:o.kd=1):doA P r S B n nv s o=dA1 P r S B n nv s o:=by
 unfold doA
 rw [if_neg (by rw [h];decide)]
 rw [if_pos h]
theorem doA_2 {P r S B n nv:Nat} {s:Ms} {o:Od} (h:o.kd=2):doA P r S B n nv s o=dA2 P r S B n nv s o:=by
 unfold doA
 rw [if_neg (by rw [h];decide)]
 rw [if_neg (by rw [h];decide)]
 rw [if_pos h]
theorem doA_3 {P r S B n nv:Nat} {s:Ms} {o:Od} (h:o.kd=3):doA P r S B n nv s o=dA3 P r S B n nv s o:=by
 unfold doA
 rw [if_neg (by rw [h];decide)]
 rw [if_neg (by rw [h];decide)]
 rw [if_neg (by rw [h];decide)]
 rw [if_pos h]
theorem doA_4 {P r S B n nv:Nat} {s:Ms} {o:Od} (h:o.kd=4):doA P r S B n nv s o=dA4 P r S B n nv s o:=by
 unfold doA
 rw [if_neg (by rw [h];decide)]
 rw [if_neg (by rw [h];decide)]
 rw [if_neg (by rw [h];decide)]
 rw [if_neg (by rw [h];decide)]
 rw [if_pos h]
theorem doA_5 {P r S B n nv:Nat} {s:Ms} {o:Od} (h:o.kd=5):doA P r S B n nv s o=dA5 P r S B n nv s o:=by
 unfold doA
 rw [if_neg (by rw [h];decide)]
 rw [if_neg (by rw [h];decide)]
 rw [if_neg (by rw [h];decide)]
 rw [if_neg (by rw [h];decide)]
 rw [if_neg (by rw [h];decide)]
 rw [if_pos h]
theorem doA_6 {P r S B n nv:Nat} {s:Ms} {o:Od} (h:o.kd=6):doA P r S B n nv s o=dA6 P r S B n nv s o:=by
 unfold doA
 rw [if_neg (by rw [h];decide)]
 rw [if_neg (by rw [h];decide)]
 rw [if_neg (by rw [h];decide)]
 rw [if_neg (by rw [h];decide)]
 rw [if_neg (by rw [h];decide)]
 rw [if_neg (by rw [h];decide)]
 rw [if_pos h]
theorem doA_7 {P r S B n nv:Nat} {s:Ms} {o:Od} (h:o.kd=7):doA P r S B n nv s o=dA7 P r S B n nv s o:=by
 unfold doA
 rw [if_neg (by rw [h];decide)]
 rw [if_neg (by rw [h];decide)]
 rw [if_neg (by rw [h];decide)]
 rw [if_neg (by rw [h];decide)]
 rw [if_neg (by rw [h];decide)]
 rw [if_neg (by rw [h];decide)]
 rw [if_neg (by rw [h];decide)]
 rw [if_pos h]
theorem zjy {P r S B n nv:Nat} {s:Ms} {o:Od} (h:o.kd=8):doA P r S B n nv s o=dA8 P r S B n nv s o:=by
 unfold doA
 rw [if_neg (by rw [h];decide)]
 rw [if_neg (by rw [h];decide)]
 rw [if_neg (by rw [h];decide)]
 rw [if_neg (by rw [h];decide)]
 rw [if_neg (by rw [h];decide)]
 rw [if_neg (by rw [h];decide)]
 rw [if_neg (by rw [h];decide)]
 rw [if_neg (by rw [h];decide)]
 rw [if_pos h]
theorem doA_9 {P r S B n nv:Nat} {s:Ms} {o:Od} (h:o.kd=9):doA P r S B n nv s o=dA9 P r S B n nv s o:=by
 unfold doA
 rw [if_neg (by rw [h];decide)]
 rw [if_neg (by rw [h];decide)]
 rw [if_neg (by rw [h];decide)]
 rw [if_neg (by rw [h];decide)]
 rw [if_neg (by rw [h];decide)]
 rw [if_neg (by rw [h];decide)]
 rw [if_neg (by rw [h];decide)]
 rw [if_neg (by rw [h];decide)]
 rw [if_neg (by rw [h];decide)]
 rw [if_pos h]
theorem zfd {P r S B n nv:Nat} {s:Ms} {o:Od} (h:o.kd=10):doA P r S B n nv s o=dA10 P r S B n nv s o:=by
 unfold doA
 rw [if_neg (by rw [h];decide)]
 rw [if_neg (by rw [h];decide)]
 rw [if_neg (by rw [h];decide)]
 rw [if_neg (by rw [h];decide)]
 rw [if_neg (by rw [h];decide)]
 rw [if_neg (by rw [h];decide)]
 rw [if_neg (by rw [h];decide)]
 rw [if_neg (by rw [h];decide)]
 rw [if_neg (by rw [h];decide)]
 rw [if_neg (by rw [h];decide)]
 rw [if_pos h]
theorem zfb {P r S B n nv:Nat} {s:Ms} {o:Od} (h:o.kd=11):doA P r S B n nv s o=dA11 P r S B n nv s o:=by
 unfold doA
 rw [if_neg (by rw [h];decide)]
 rw [if_neg (by rw [h];decide)]
 rw [if_neg (by rw [h];decide)]
 rw [if_neg (by rw [h];decide)]
 rw [if_neg (by rw [h];decide)]
 rw [if_neg (by rw [h];decide)]
 rw [if_neg (by rw [h];decide)]
 rw [if_neg (by rw [h];decide)]
 rw [if_neg (by rw [h];decide)]
 rw [if_neg (by rw [h];decide)]
 rw [if_neg (by rw [h];decide)]
 rw [if_pos h]
theorem zma {P r S B n nv:Nat} {s:Ms} {o:Od} (h:o.kd=12):doA P r S B n nv s o=dA12 P r S B n nv s o:=by
 unfold doA
 rw [if_neg (by rw [h];decide)]
 rw [if_neg (by rw [h];decide)]
 rw [if_neg (by rw [h];decide)]
 rw [if_neg (by rw [h];decide)]
 rw [if_neg (by rw [h];decide)]
 rw [if_neg (by rw [h];decide)]
 rw [if_neg (by rw [h];decide)]
 rw [if_neg (by rw [h];decide)]
 rw [if_neg (by rw [h];decide)]
 rw [if_neg (by rw [h];decide)]
 rw [if_neg (by rw [h];decide)]
 rw [if_neg (by rw [h];decide)]
 rw [if_pos h]
theorem zpl {P r S B n nv:Nat} {s:Ms} {o:Od} (h:o.kd=0):doS P r S B n nv s o=s:=by
 unfold doS
 rw [if_neg (by rw [h];decide)]
 rw [if_neg (by rw [h];decide)]
 rw [if_neg (by rw [h];decide)]
 rw [if_neg (by rw [h];decide)]
 rw [if_neg (by rw [h];decide)]
 rw [if_neg (by rw [h];decide)]
 rw [if_neg (by rw [h];decide)]
 rw [if_neg (by rw [h];decide)]
 rw [if_neg (by rw [h];decide)]
theorem doS_1 {P r S B n nv:Nat} {s:Ms} {o:Od} (h:o.kd=1):doS P r S B n nv s o=s:=by
 unfold doS
 rw [if_neg (by rw [h];decide)]
 rw [if_neg (by rw [h];decide)]
 rw [if_neg (by rw [h];decide)]
 rw [if_neg (by rw [h];decide)]
 rw [if_neg (by rw [h];decide)]
 rw [if_neg (by rw [h];decide)]
 rw [if_neg (by rw [h];decide)]
 rw [if_neg (by rw [h];decide)]
 rw [if_neg (by rw [h];decide)]
theorem zow {P r S B n nv:Nat} {s:Ms} {o:Od} (h:o.kd=2):doS P r S B n nv s o=dS2 P r S B n nv s o:=by
 unfold doS;rw [if_pos h]
theorem doS_3 {P r S B n nv:Nat} {s:Ms} {o:Od} (h:o.kd=3):doS P r S B n nv s o=s:=by
 unfold doS
 rw [if_neg (by rw [h];decide)]
 rw [if_neg (by rw [h];decide)]
 rw [if_neg (by rw [h];decide)]
 rw [if_neg (by rw [h];decide)]
 rw [if_neg (by rw [h];decide)]
 rw [if_neg (by rw [h];decide)]
 rw [if_neg (by rw [h];decide)]
 rw [if_neg (by rw [h];decide)]
 rw [if_neg (by rw [h];decide)]
theorem zqv {P r S B n nv:Nat} {s:Ms} {o:Od} (h:o.kd=4):doS P r S B n nv s o=dS4 P r S B n nv s o:=by
 unfold doS
 rw [if_neg (by rw [h];decide)]
 rw [if_pos h]
theorem doS_5 {P r S B n nv:Nat} {s:Ms} {o:Od} (h:o.kd=5):doS P r S B n nv s o=dS5 P r S B n nv s o:=by
 unfold doS
 rw [if_neg (by rw [h];decide)]
 rw [if_neg (by rw [h];decide)]
 rw [if_pos h]
theorem zo8 {P r S B n nv:Nat} {s:Ms} {o:Od} (h:o.kd=6):doS P r S B n nv s o=dS6 P r S B n nv s o:=by
 unfold doS
 rw [if_neg (by rw [h];decide)]
 rw [if_neg (by rw [h];decide)]
 rw [if_neg (by rw [h];decide)]
 rw [if_pos h]
theorem doS_7 {P r S B n nv:Nat} {s:Ms} {o:Od} (h:o.kd=7):doS P r S B n nv s o=dS7 P r S B n nv s o:=by
 unfold doS
 rw [if_neg (by rw [h];decide)]
 rw [if_neg (by rw [h];decide)]
 rw [if_neg (by rw [h];decide)]
 rw [if_neg (by rw [h];decide)]
 rw [if_pos h]
theorem zj8 {P r S B n nv:Nat} {s:Ms} {o:Od} (h:o.kd=8):doS P r S B n nv s o=dS8 P r S B n nv s o:=by
 unfold doS
 rw [if_neg (by rw [h];decide)]
 rw [if_neg (by rw [h];decide)]
 rw [if_neg (by rw [h];decide)]
 rw [if_neg (by rw [h];decide)]
 rw [if_neg (by rw [h];decide)]
 rw [if_pos h]
theorem zo0 {P r S B n nv:Nat} {s:Ms} {o:Od} (h:o.kd=9):doS P r S B n nv s o=dS9 P r S B n nv s o:=by
 unfold doS
 rw [if_neg (by rw [h];decide)]
 rw [if_neg (by rw [h];decide)]
 rw [if_neg (by rw [h];decide)]
 rw [if_neg (by rw [h];decide)]
 rw [if_neg (by rw [h];decide)]
 rw [if_neg (by rw [h];decide)]
 rw [if_pos h]
theorem zd4 {P r S B n nv:Nat} {s:Ms} {o:Od} (h:o.kd=10):doS P r S B n nv s o=dS10 P r S B n nv s o:=by
 unfold doS
 rw [if_neg (by rw [h];decide)]
 rw [if_neg (by rw [h];decide)]
 rw [if_neg (by rw [h];decide)]
 rw [if_neg (by rw [h];decide)]
 rw [if_neg (by rw [h];decide)]
 rw [if_neg (by rw [h];decide)]
 rw [if_neg (by rw [h];decide)]
 rw [if_pos h]
theorem zd5 {P r S B n nv:Nat} {s:Ms} {o:Od} (h:o.kd=11):doS P r S B n nv s o=dS11 P r S B n nv s o:=by
 unfold doS
 rw [if_neg (by rw [h];decide)]
 rw [if_neg (by rw [h];decide)]
 rw [if_neg (by rw [h];decide)]
 rw [if_neg (by rw [h];decide)]
 rw [if_neg (by rw [h];decide)]
 rw [if_neg (by rw [h];decide)]
 rw [if_neg (by rw [h];decide)]
 rw [if_neg (by rw [h];decide)]
 rw [if_pos h]
theorem zet {P r S B n nv:Nat} {s:Ms} {o:Od} (h:o.kd=12):doS P r S B n nv s o=s:=by
 unfold doS
 rw [if_neg (by rw [h];decide)]
 rw [if_neg (by rw [h];decide)]
 rw [if_neg (by rw [h];decide)]
 rw [if_neg (by rw [h];decide)]
 rw [if_neg (by rw [h];decide)]
 rw [if_neg (by rw [h];decide)]
 rw [if_neg (by rw [h];decide)]
 rw [if_neg (by rw [h];decide)]
 rw [if_neg (by rw [h];decide)]
theorem doA_X {P r S B n nv:Nat} {s:Ms} {o:Od} (h:o.kd<0\/12<o.kd):doA P r S B n nv s o=-1:=by
 unfold doA
 rw [if_neg (by omega)]
 rw [if_neg (by omega)]
 rw [if_neg (by omega)]
 rw [if_neg (by omega)]
 rw [if_neg (by omega)]
 rw [if_neg (by omega)]
 rw [if_neg (by omega)]
 rw [if_neg (by omega)]
 rw [if_neg (by omega)]
 rw [if_neg (by omega)]
 rw [if_neg (by omega)]
 rw [if_neg (by omega)]
 rw [if_neg (by omega)]
theorem doS_X {P r S B n nv:Nat} {s:Ms} {o:Od} (h:o.kd<0\/12<o.kd):doS P r S B n nv s o=s:=by
 unfold doS
 rw [if_neg (by omega)]
 rw [if_neg (by omega)]
 rw [if_neg (by omega)]
 rw [if_neg (by omega)]
 rw [if_neg (by omega)]
 rw [if_neg (by omega)]
 rw [if_neg (by omega)]
 rw [if_neg (by omega)]
 rw [if_neg (by omega)]
section
variable {E:Nat->Prop} {w:World} {L A S1 Q bp bq P r S B n nv:Nat} {uv:Value} {G:Nat->Value} {R:Nat->Nat} {qv:Nat->Nat->Value} {s s':Ms} {a:Int} {o:Od}
def Ms.good (s:Ms):Prop:=stG s.g/\∀ x∈s.lv,x.ok
def zbu (E:Nat->Prop) (w:World) (L A S1 Q bp bq P r S B n nv:Nat) (uv:Value) (G:Nat->Value) (R:Nat->Nat) (s':Ms) (a:Int) (e:Ending) (w':World):Prop :=
 ∃ qv',e=.returned (.int .i64 a)/\MdAll E w' L A S1 Q bp bq P r S B n nv uv s'.lv s'.st s'.g G R qv' s'.qs/\s'.good/\MdFr E w w' L
theorem zbu.quiet (h:MdAll E w L A S1 Q bp bq P r S B n nv uv s.lv s.st s.g G R qv s.qs) (hg:s.good) (hs:s'=s) {v:Int} (ha:a=v) {e:Ending} {w':World} (he:Says (.int .i64 v) w e w'):zbu E w L A S1 Q bp bq P r S B n nv uv G R s' a e w':=by
 obtain ⟨rfl,hb⟩:=he;rw [hs,ha]
 exact ⟨qv,rfl,h.call hb,hg,MdFr.quiet h hb⟩
theorem zbu.of {v:Int} (hs:doS P r S B n nv s o=s') (ha:doA P r S B n nv s o=v) {e:Ending} {w':World} (h:zbu E w L A S1 Q bp bq P r S B n nv uv G R s' v e w'):zbu E w L A S1 Q bp bq P r S B n nv uv G R (doS P r S B n nv s o) (doA P r S B n nv s o) e w':=by
 rw [hs,ha];exact h
theorem at_nat {S B:Nat} {sh bu:Int} (ha:atI S B sh bu≠-1):∃ Hh:Nat,atI S B sh bu=(Hh:Int)/\Hh<S*B:=by
 unfold atI at ha |-
 by_cases hc:0<=sh/\sh<S/\0<=bu/\bu<B
 ·rw [if_pos hc]
  obtain ⟨s',hs'⟩:∃ x:Nat,sh=x:=⟨sh.toNat,by omega⟩
  obtain ⟨b',hb'⟩:∃ x:Nat,bu=x:=⟨bu.toNat,by omega⟩
  subst hs' hb'
  exact ⟨s'*B+b',by simp,at_lt (by omega) (by omega)⟩
 ·rw [if_neg hc] at ha
  exact absurd rfl ha
theorem zkp (h:MdAll E w L A S1 Q bp bq P r S B n nv uv s.lv s.st s.g G R qv s.qs) (hP:P<=64) (hr:r<=64) (hS:1<=S/\S<=8) (hB:1<=B/\B<=16) (hn:1<=n/\n<=8) (hg:s.good) (o:Od) (ho:o.ok) :
  Calls Tryz.prog 58 #[.pointer (some ⟨A,0,none⟩),o.val] w (zbu E w L A S1 Q bp bq P r S B n nv uv G R (doS P r S B n nv s o) (doA P r S B n nv s o)):=by
 obtain ⟨kd,po,tt,vi,sx,kv,km,me,un,nw,li,sh,bu,id⟩:=o;obtain ⟨hvi,hkm,hme,hun,hnw⟩:=ho
 simp only at hvi hkm hme hun hnw
 unfold Od.val
 simp only
 have hst:=hg.1;have hok:=hg.2
 have hst':∀ i,i<S*B->∀ j,j<n->(s.g i j).e.stamp<4294967296:=fun i _ j _=>hst i j
 by_cases hk:kd<0\/12<kd
 ·refine (zn3 h kd hk po tt vi sx kv km me un nw li sh bu id).mono fun e w' he=>zbu.quiet h hg (doS_X hk) (doA_X hk) he
 ·rcases (show kd=0\/kd=1\/kd=2\/kd=3\/kd=4\/kd=5\/kd=6\/kd=7\/kd=8\/kd=9\/kd=10\/kd=11\/kd=12 by omega) with rfl|rfl|rfl|rfl|rfl|rfl|rfl|rfl|rfl|rfl|rfl|rfl|rfl
  ·by_cases hp:zah P po=true
   ·obtain ⟨p,rfl,hpl⟩:=zay hp
    exact (zh9 h p hpl tt vi sx kv km me un nw li sh bu id).mono fun e w' he=>zbu.quiet h hg (zpl rfl) (by exact (doA_0 rfl).trans (if_pos hp)) he
   ·exact (zjl h po tt (by simpa using hp) vi sx kv km me un nw li sh bu id).mono fun e w' he=>zbu.quiet h hg (zpl rfl) (by exact (doA_0 rfl).trans (if_neg hp)) he
  ·exact (zpo h po tt vi sx kv km me un nw li sh bu id).mono fun e w' he=>zbu.quiet h hg (doS_1 rfl) (by exact (doA_1 rfl).trans rfl) he
  ·by_cases hp:zah P po=true
   ·obtain ⟨p,rfl,hpl⟩:=zay hp
    refine (zqj h hS hB hn hst' p hpl kv km hkm nw hnw tt vi sx me un li sh bu id).mono fun e w' he=>zbu.of (by exact (zow rfl).trans ((if_pos hp))) (by exact (doA_2 rfl).trans ((if_pos hp))) ?_
    obtain ⟨rfl,hm,hb⟩:=he
    exact ⟨qv,rfl,hm,⟨zcc hst (zhb (zcz (hst _)) (hnw)) _,hok⟩,hb⟩
   ·exact (zi2 h po tt (by simpa using hp) vi sx kv km me un nw li sh bu id).mono fun e w' he=>zbu.quiet h hg (by exact (zow rfl).trans (if_neg hp)) (by exact (doA_2 rfl).trans (if_neg hp)) he
  ·exact (zoh h hS hB hn kv km hkm po tt vi sx me un nw li sh bu id).mono fun e w' he=>zbu.quiet h hg (doS_3 rfl) (by exact (doA_3 rfl).trans rfl) he
  ·by_cases hp:zah P po=true
   ·obtain ⟨p,rfl,hpl⟩:=zay hp
    refine (zn2 h hS hB hn hst' p hpl kv km hkm nw hnw tt vi sx me un li sh bu id).mono fun e w' he=>zbu.of (by exact (zqv rfl).trans ((if_pos hp))) (by exact (doA_4 rfl).trans ((if_pos hp))) ?_
    obtain ⟨rfl,hm,hb⟩:=he
    exact ⟨qv,rfl,hm,⟨zcc hst (zhb (zcz (hst _)) (by show (0:Nat)<_;omega)) _,hok⟩,hb⟩
   ·exact (zjm h po tt (by simpa using hp) vi sx kv km me un nw li sh bu id).mono fun e w' he=>zbu.quiet h hg (by exact (zqv rfl).trans (if_neg hp)) (by exact (doA_4 rfl).trans (if_neg hp)) he
  ·refine (zom h hS hB hn kv km hkm po tt vi sx me un nw li sh bu id).mono fun e w' he=>zbu.of (by exact (doS_5 rfl).trans rfl) (by exact (doA_5 rfl).trans rfl) ?_
   obtain ⟨rfl,hm,hb⟩:=he
   exact ⟨qv,rfl,hm,⟨zcc hst (zhv (zcz (hst _))) _,hok⟩,hb⟩
  ·by_cases ha:atI S B sh bu=-1
   ·exact (zkh h hS hB hn sh bu ha po tt vi sx kv km me un nw li id).mono fun e w' he=>zbu.quiet h hg (by exact (zo8 rfl).trans (if_pos ha)) (by exact (doA_6 rfl).trans (if_pos ha)) he
   ·obtain ⟨Hh,hh1,hh2⟩:=at_nat ha
    refine (zob h hS hB hn hst' nw hnw li sh bu Hh hh2 hh1 po tt vi sx kv km me un id).mono fun e w' he=>zbu.of (by exact (zo8 rfl).trans ((if_neg ha))) (by exact (doA_6 rfl).trans ((if_neg ha))) ?_
    simp only
    rw [hh1,Int.toNat_natCast];obtain ⟨rfl,hm,hb⟩:=he
    exact ⟨qv,rfl,hm,⟨zcc hst (zfk (zcz (hst _))) _,hok⟩,hb⟩
  ·refine (zpz h hS hB hn po tt vi sx kv km me un nw li sh bu id).mono fun e w' he=>zbu.of (by exact (doS_7 rfl).trans rfl) (by exact (doA_7 rfl).trans rfl) ?_
   obtain ⟨rfl,hm,hb⟩:=he
   exact ⟨qv,rfl,hm,⟨doG_st 6 0 0 po vi 0 0 S B n s.g hst (by omega),hok⟩,hb⟩
  ·by_cases hp:zah P po=true
   ·obtain ⟨p,rfl,hpl⟩:=zay hp
    by_cases hx:zau sx=true
    ·refine (zoz h hP p hpl sx hx tt vi kv km me un nw li sh bu id).mono fun e w' he=>zbu.of (by exact (zj8 rfl).trans (((if_pos hp).trans (if_pos hx)))) (by exact (zjy rfl).trans (((if_pos hp).trans (if_pos hx)))) ?_
     obtain ⟨rfl,hm,hb⟩:=he
     exact ⟨qv,rfl,hm,⟨hst,hok⟩,hb⟩
    ·exact (zkw h p hpl sx (by simpa using hx) tt vi kv km me un nw li sh bu id).mono fun e w' he=>zbu.quiet h hg (by exact (zj8 rfl).trans ((if_pos hp).trans (if_neg hx))) (by exact (zjy rfl).trans ((if_pos hp).trans (if_neg hx))) he
   ·exact (zi4 h po tt (by simpa using hp) vi sx kv km me un nw li sh bu id).mono fun e w' he=>zbu.quiet h hg (by exact (zj8 rfl).trans (if_neg hp)) (by exact (zjy rfl).trans (if_neg hp)) he
  ·by_cases hneg:zax s.lv vi nv<0
   ·exact (zjs h vi hneg me un po tt sx kv km nw li sh bu id).mono fun e w' he=>zbu.quiet h hg (by exact (zo0 rfl).trans (if_pos hneg)) (by exact (doA_9 rfl).trans (if_pos hneg)) he
   ·refine (zo6 h vi me un hme hun (zax s.lv vi nv).toNat (by omega) po tt sx kv km nw li sh bu id).mono fun e w' he=>zbu.of (by exact (zo0 rfl).trans ((if_neg hneg))) (by exact (doA_9 rfl).trans ((if_neg hneg))) ?_
    obtain ⟨rfl,hm,hb⟩:=he
    exact ⟨qv,rfl,hm,⟨hst,zpp hok _ ⟨hvi,Nat.lt_of_le_of_lt Nat.and_le_left hme,Nat.lt_of_le_of_lt Nat.and_le_left hun⟩⟩,hb⟩
  ·by_cases hp:zah P po=true
   ·by_cases hp2:zah P tt=true
    ·obtain ⟨i,rfl,hi⟩:=zay hp
     obtain ⟨j,rfl,hj⟩:=zay hp2
     by_cases hf:r<=(s.qs i j).length
     ·exact (zim h i j hi hj hf vi sx kv km me un nw li sh bu id).mono fun e w' he=>zbu.quiet h hg (by exact (zd4 rfl).trans (((if_pos hp).trans (if_pos hp2)).trans (if_pos hf))) (by exact (zfd rfl).trans (((if_pos hp).trans (if_pos hp2)).trans (if_pos hf))) he
     ·refine (zng h i j hi hj hP hr (by omega) vi sx kv km me un nw li sh bu id).mono fun e w' he=>zbu.of (by exact (zd4 rfl).trans ((((if_pos hp).trans (if_pos hp2)).trans (if_neg hf)))) (by exact (zfd rfl).trans ((((if_pos hp).trans (if_pos hp2)).trans (if_neg hf)))) ?_
      obtain ⟨rfl,⟨qv',hm⟩,hb⟩:=he
      exact ⟨qv',rfl,hm,⟨hst,hok⟩,hb⟩
    ·exact (zgo h po tt hp (by simpa using hp2) vi sx kv km me un nw li sh bu id).mono fun e w' he=>zbu.quiet h hg (by exact (zd4 rfl).trans ((if_pos hp).trans (if_neg hp2))) (by exact (zfd rfl).trans ((if_pos hp).trans (if_neg hp2))) he
   ·exact (zgy h po tt (by simpa using hp) vi sx kv km me un nw li sh bu id).mono fun e w' he=>zbu.quiet h hg (by exact (zd4 rfl).trans (if_neg hp)) (by exact (zfd rfl).trans (if_neg hp)) he
  ·by_cases hp:zah P po=true
   ·by_cases hp2:zah P tt=true
    ·obtain ⟨i,rfl,hi⟩:=zay hp
     obtain ⟨j,rfl,hj⟩:=zay hp2
     rcases hql:s.qs i j with _|⟨x,l⟩
     ·exact (zjk h i j hi hj hql vi sx kv km me un nw li sh bu id).mono fun e w' he=>zbu.quiet h hg (by exact (zd5 rfl).trans (((if_pos hp).trans (if_pos hp2)).trans (if_pos hql))) (by exact (zfb rfl).trans (((if_pos hp).trans (if_pos hp2)).trans (by show (s.qs i j).headD (-1)=-1;rw [hql];rfl))) he
     ·refine (znc h i j hi hj x l hql vi sx kv km me un nw li sh bu id).mono fun e w' he=>zbu.of (s':={ s with qs:=upd2 s.qs i j l }) (by exact (zd5 rfl).trans ((((if_pos hp).trans (if_pos hp2)).trans ((if_neg (by show ¬ s.qs i j=[];rw [hql];exact List.cons_ne_nil _ _)).trans (by show Ms.mk _ _ _ (upd2 s.qs i j (s.qs i j).tail)=_;rw [hql];rfl))))) (by exact (zfb rfl).trans ((((if_pos hp).trans (if_pos hp2)).trans (by show (s.qs i j).headD (-1)=x;rw [hql];rfl)))) ?_
      obtain ⟨rfl,⟨qv',hm⟩,hb⟩:=he
      exact ⟨qv',rfl,hm,⟨hst,hok⟩,hb⟩
    ·exact (zgr h po tt hp (by simpa using hp2) vi sx kv km me un nw li sh bu id).mono fun e w' he=>zbu.quiet h hg (by exact (zd5 rfl).trans ((if_pos hp).trans (if_neg hp2))) (by exact (zfb rfl).trans ((if_pos hp).trans (if_neg hp2))) he
   ·exact (zgw h po tt (by simpa using hp) vi sx kv km me un nw li sh bu id).mono fun e w' he=>zbu.quiet h hg (by exact (zd5 rfl).trans (if_neg hp)) (by exact (zfb rfl).trans (if_neg hp)) he
  ·by_cases hp:zah P tt=true
   ·obtain ⟨p,rfl,hpl⟩:=zay hp
    exact (zmv h hok p hpl po vi sx kv km me un nw li sh bu id).mono fun e w' he=>zbu.quiet h hg (zet rfl) (by exact (zma rfl).trans (if_pos hp)) he
   ·exact (zik h po tt (by simpa using hp) vi sx kv km me un nw li sh bu id).mono fun e w' he=>zbu.quiet h hg (zet rfl) (by exact (zma rfl).trans (if_neg hp)) he
end
end Go.Proofs.YtfekhdgjgjodlaaGreat
