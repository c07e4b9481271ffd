/-
  Words and contracts that a statement's proof rests on (HiM, OpenEn). No statement is proved here.
-/
import Derived.Maps.OwnSet
import Derived.Maps.OwnOps
import Derived.WalkArith
import Derived.Test.YtfekhdgjgjodlaaPlainHi
import Derived.Test.YtfekhdgjgjodlaaHiA
import Derived.Test.YtfekhdgjgjodlaaSrH
set_option linter.unusedVariables false
set_option linter.unusedSimpArgs false
namespace Go.Proofs.Ytfekhdgjgjodlaa
section
open Go.RowKit Go.Maps Go.ChangeMaps
theorem iKey:Keyed Try.prog 3:=int_keyed Try.underlying3
def rngI (x:Int):Prop:=-9223372036854775808≤x∧x≤9223372036854775807
theorem iKey_rd {x:Int} (h:rngI x):keyOf Try.prog 3 (.int .i64 x)=some (.int .i64 x):=keyOf_int_mk Try.underlying3 (Go.WalkArith.wf_i64 h)
theorem iKey_key {x:Int} (h:rngI x):WideAt.IsKeyLit (Lit.int .i64 x):=Keyed.key iKey (iKey_rd h)
theorem iKey_ne {x y:Int} (h:y ≠ x):(Lit.int .i64 y) ≠ Lit.int .i64 x:=fun e => h (by injection e)
theorem zeroI9 (w:World):(zeroValue 3).run Try.prog w=.ok (.int .i64 0) w:=by kernel_rfl
theorem zeroB9 (w:World):(zeroValue 4).run Try.prog w=.ok (.bool false) w:=by kernel_rfl
theorem plainElem_bool {q:Bool}:plainElem (H:=Unit) Try.prog 4 (.bool q)=some (.lit (.bool q),[]):=by
 have h:=Try.underlying4
 simp [plainElem,h]
theorem plainElem_bool_inv {v:Value} {q:Bool} {ps:List MemPlace} (h:plainElem (H:=Unit) Try.prog 4 v=some (.lit (.bool q),ps)):v=.bool q:=by
 have hu:=Try.underlying4
 cases v <;> simp [plainElem,hu] at h
 rw [h.1]
structure MapIn (D:DataW Unit) (K:Int→Option Nat):Prop where
 has:∀ x,rngI x→Maps.has D (.int .i64 x)=(K x).isSome
 at_:∀ x p,rngI x→K x=some p→D.atKey (.int .i64 x) (.lit (.int .i64 0))=.lit (.int .i64 (p:Nat))
def MapBo (D:DataW Unit) (K:Int→Bool):Prop:=∀ x,rngI x→D.atKey (.int .i64 x) (.lit (.bool false))=.lit (.bool (K x))
theorem mapIn_new:MapIn (.map []) (fun _ => none):=⟨fun x _ => (by rw [Maps.has_eq]; rfl),fun _ _ _ h => (by cases h)⟩
theorem mapBo_new:MapBo (.map []) (fun _ => false):=fun x _ => rfl
set_option maxRecDepth 100000 in
theorem MapIn.put {D:DataW Unit} {K:Int→Option Nat} (h:MapIn D K) (hD:Tidy D) {x:Int} (hr:rngI x) (p:Nat):MapIn (D.put (.int .i64 x) (.lit (.int .i64 (p:Nat)))) (fun y => if x=y then some p else K y):=by
 have hk:=iKey_key hr
 refine ⟨fun y h' => ?_,fun y p' h' e => ?_⟩
 ·by_cases a:x=y
  ·subst a
   rw [if_pos rfl,has_put_same hD.isMap hk]; rfl
  ·rw [if_neg a,has_put_other (iKey_ne (Ne.symm a))]; exact h.has _ h'
 ·by_cases a:x=y
  ·subst a
   rw [if_pos rfl] at e
   injection e with e
   rw [atKey_put_same hD.isMap hk,e]
  ·rw [if_neg a] at e
   rw [atKey_put_other (iKey_ne (Ne.symm a))]; exact h.at_ _ _ h' e
set_option maxRecDepth 100000 in
theorem MapBo.put {D:DataW Unit} {K:Int→Bool} (h:MapBo D K) (hD:Tidy D) {x:Int} (hr:rngI x):MapBo (D.put (.int .i64 x) (.lit (.bool true))) (fun y => if x=y then true else K y):=by
 have hk:=iKey_key hr
 intro y h'
 show _=DataW.lit (.bool (if x=y then true else K y))
 by_cases a:x=y
 ·subst a
  rw [if_pos rfl,atKey_put_same hD.isMap hk]
 ·rw [if_neg a,atKey_put_other (iKey_ne (Ne.symm a))]; exact h _ h'
theorem look_bool {w:World} {b n:Nat} {D:DataW Unit} {K:Int→Bool} (h:w.ownsMap Try.prog 3 (plainElem (H:=Unit) Try.prog 4) b n D) (hm:MapBo D K) {x:Int} (hr:rngI x) :
  (Instr.lookup 96 (.map (some b)) (.int .i64 x) false).run Try.prog w=.ok (.bool (K x)) w:=by
 obtain ⟨v,ps,hrun,hv⟩:=h.lookup iKey Try.underlying96 (zeroB9 w) (plainElem_bool (q:=false)) (iKey_rd hr)
 rw [hm x hr] at hv
 rw [hrun,plainElem_bool_inv hv]
end
section
open Go.ChangeShapes Go.WideShapes Go.RowKit Go.Deep
def Ents18 (w:World) (v:Value):Prop :=
 ∃ (n:Nat) (L:Nat→Ent),EnRow w w.heap.size n v L∧∀ i,i < n→(L i).op.ok∧rngI (L i).who∧rngI (L i).mar∧rngI (L i).beg∧rngI (L i).fin∧rngI (L i).ans
theorem ents_of (w:World) (b off:Nat):∀ n,(∀ i,i < n→∃ x:Ent,EntHolds w b (off + i * 19) x∧(x.op.ok∧rngI x.who∧rngI x.mar∧rngI x.beg∧rngI x.fin∧rngI x.ans)) →
  ∃ L:Nat→Ent,∀ i,i < n→EntHolds w b (off + i * 19) (L i)∧((L i).op.ok∧rngI (L i).who∧rngI (L i).mar∧rngI (L i).beg∧rngI (L i).fin∧rngI (L i).ans)
 | 0,_ => ⟨fun _ => ⟨0,0,0,0,⟨0,0,0,0,0,0,0,0,0,0,0,0,0,0⟩,0⟩,fun i hi => absurd hi (by omega)⟩
 | n + 1,h => by
  obtain ⟨L,hL⟩:=ents_of w b off n fun i hi => h i (by omega)
  obtain ⟨x,hx⟩:=h n (by omega)
  refine ⟨fun i => if i=n then x else L i,fun i hi => ?_⟩
  by_cases e:i=n
  ·subst e
   simp only [if_true]
   exact hx
  ·simp only [if_neg e]
   exact hL i (by omega)
section
variable {H:Type} {enc:TypeId × Value→H} {P:Program} {w:World} {held:Bool}
theorem open_ents18 {r:Reach} {b0:Nat} {t e i q u:TypeId} {v:Value} {d:DataW H} {p:List MemPlace} (ht:P.underlying t=some (.slice e)) (hl:leaves P 8 e=some [i,i,i,i,i,i,i,i,i,i,q,q,q,u,u,i,i,i,i]) (hC:P.cellsOf e=19)
  (hi:P.underlying i=some (.int .i64)) (hq:P.underlying q=some (.int .u64)) (hu:P.underlying u=some (.int .u32))
  (hv:Value.okWide P w r b0 t v) (h:DataW.Trod enc P w 0 (fun _ => true) held t v d p):Ents18 w v:=by
 obtain ⟨A,n,cap,rfl,hn,hm,hc⟩:=open_flats ht hl hC (by simp) hv h
 rcases Nat.eq_zero_or_pos n with h0 | h0
 ·subst h0
  exact ⟨0,fun _ => ⟨0,0,0,0,⟨0,0,0,0,0,0,0,0,0,0,0,0,0,0⟩,0⟩,⟨A,cap,rfl,hn,hm,fun h => absurd h (by omega)⟩,fun i hi => absurd hi (by omega)⟩
 obtain ⟨b,off,rfl,hb,hcell⟩:=hc h0
 obtain ⟨L,hL⟩:=ents_of w b off n fun j hj => by
  obtain ⟨u0,e0,g0⟩:=hcell j hj 0 i rfl
  obtain ⟨u1,e1,g1⟩:=hcell j hj 1 i rfl
  obtain ⟨u2,e2,g2⟩:=hcell j hj 2 i rfl
  obtain ⟨u3,e3,g3⟩:=hcell j hj 3 i rfl
  obtain ⟨u4,e4,g4⟩:=hcell j hj 4 i rfl
  obtain ⟨u5,e5,g5⟩:=hcell j hj 5 i rfl
  obtain ⟨u6,e6,g6⟩:=hcell j hj 6 i rfl
  obtain ⟨u7,e7,g7⟩:=hcell j hj 7 i rfl
  obtain ⟨u8,e8,g8⟩:=hcell j hj 8 i rfl
  obtain ⟨u9,e9,g9⟩:=hcell j hj 9 i rfl
  obtain ⟨u10,e10,g10⟩:=hcell j hj 10 q rfl
  obtain ⟨u11,e11,g11⟩:=hcell j hj 11 q rfl
  obtain ⟨u12,e12,g12⟩:=hcell j hj 12 q rfl
  obtain ⟨u13,e13,g13⟩:=hcell j hj 13 u rfl
  obtain ⟨u14,e14,g14⟩:=hcell j hj 14 u rfl
  obtain ⟨u15,e15,g15⟩:=hcell j hj 15 i rfl
  obtain ⟨u16,e16,g16⟩:=hcell j hj 16 i rfl
  obtain ⟨u17,e17,g17⟩:=hcell j hj 17 i rfl
  obtain ⟨u18,e18,g18⟩:=hcell j hj 18 i rfl
  obtain ⟨x0,rfl,b0⟩:=g0.i64 hi
  obtain ⟨x1,rfl,b1⟩:=g1.i64 hi
  obtain ⟨x2,rfl,b2⟩:=g2.i64 hi
  obtain ⟨x3,rfl,b3⟩:=g3.i64 hi
  obtain ⟨x4,rfl,b4⟩:=g4.i64 hi
  obtain ⟨x5,rfl,b5⟩:=g5.i64 hi
  obtain ⟨x6,rfl,b6⟩:=g6.i64 hi
  obtain ⟨x7,rfl,b7⟩:=g7.i64 hi
  obtain ⟨x8,rfl,b8⟩:=g8.i64 hi
  obtain ⟨x9,rfl,b9⟩:=g9.i64 hi
  obtain ⟨x10,rfl,b10⟩:=g10.u64 hq
  obtain ⟨x11,rfl,b11⟩:=g11.u64 hq
  obtain ⟨x12,rfl,b12⟩:=g12.u64 hq
  obtain ⟨x13,rfl,b13⟩:=g13.u32 hu
  obtain ⟨x14,rfl,b14⟩:=g14.u32 hu
  obtain ⟨x15,rfl,b15⟩:=g15.i64 hi
  obtain ⟨x16,rfl,b16⟩:=g16.i64 hi
  obtain ⟨x17,rfl,b17⟩:=g17.i64 hi
  obtain ⟨x18,rfl,b18⟩:=g18.i64 hi
  exact ⟨⟨x0,x1,x2,x3,⟨x4,x5,x6,x7,x8,x9,x10,x11,x12,x13,x14,x15,x16,x17⟩,x18⟩,⟨e0,e1,e2,e3,e4,e5,e6,e7,e8,e9,e10,e11,e12,e13,e14,e15,e16,e17,e18⟩,⟨b7,b10,b11,b12,b13⟩,b0,b2,b1,b3,b18⟩
 exact ⟨n,L,⟨_,cap,rfl,hn,hm,fun _ => ⟨b,off,rfl,hb,fun i hi => (hL i hi).1⟩⟩,fun i hi => (hL i hi).2⟩
end
end
end Go.Proofs.Ytfekhdgjgjodlaa
