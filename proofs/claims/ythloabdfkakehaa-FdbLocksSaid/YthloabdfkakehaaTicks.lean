/-
  Words and contracts that a statement's proof rests on (Kit, Ticks, Keep, Store, OpenWh). No statement is proved here.
-/
import Derived.Test.YthloabdfkakehaaProg
import Derived.Handy
import Derived.WalkLawsBesides
import Derived.Lib.Hide
import Derived.Deep.QuietTactic
import Derived.BigQuiet
import Derived.Deep.RegionHeld
import Derived.Deep.MidRow
import Derived.Test.YthloabdfkakehaaBase
import Derived.Test.YthloabdfkakehaaOpen
set_option linter.unusedVariables false
set_option linter.unusedSimpArgs false
namespace Go.Proofs.Ythloabdfkakehaa
section
open Go.RowKit
theorem ret_u64 {a b:Int} (h:a=b):Ending.returned (.int .u64 a)=.returned (.int .u64 b):=by rw [h]
theorem ret_i64 {a b:Int} (h:a=b):Ending.returned (.int .i64 a)=.returned (.int .i64 b):=by rw [h]
theorem ret_bool {a b:Bool} (h:a=b):Ending.returned (.bool a)=.returned (.bool b):=by rw [h]
def Says (v:Value) (w:World) (e:Ending) (w':World):Prop:=e=.returned v∧Below w.heap.size w w'
theorem below_drewN {B:Nat} {a w:World} (h:Below B a w) (n:Nat):Below B a (w.drewN n):=⟨h.os,h.tape,h.output,h.size,h.block⟩
theorem bcell {W w1:World} {B:Nat} (hb:Below B W w1):(∀ b o,b < B→w1.cell? ⟨b,o,none⟩=W.cell? ⟨b,o,none⟩)∧(∀ b o,b < B→w1.frozen? ⟨b,o,none⟩=W.frozen? ⟨b,o,none⟩) :=
 ⟨fun b o h => hb.cell (p:=⟨b,o,none⟩) h,fun b o h => hb.frozen (p:=⟨b,o,none⟩) h⟩
theorem sqA {α:Type} {l:List α} {i:Nat} {a:α}:l.toArray.setIfInBounds i a=(l.set i a).toArray:=List.setIfInBounds_toArray ..
theorem sqB {α:Type} {x a:α} {l:List α}:(x :: l).set 0 a=a :: l:=List.set_cons_zero
theorem sqC {α:Type} {x a:α} {l:List α} {i:Nat}:(x :: l).set (i + 1) a=x :: l.set i a:=List.set_cons_succ
section
variable {P:Program} {md:Region.Mode} {ops:Array Oper} {Q:Exit→Act→World→Prop} {S:World→Prop} {fuel:Nat} {listed:Array Bool} {a:Act} {w:World} {d:Option Tmp} {o:Op} {t:TypeId} {p:String} {f:Array Edge} {g:Option (Nat × Bool)} {v:Value}
theorem tkR {listed':Array Bool} {a':Act} (i:Nat) (hi:ops[i]?=some ⟨d,o,t,p,f,g⟩) (h:wpAnyH P md ops Q S fuel listed' a' w) (hv:∀ w,S w→(execOp a.eval ⟨d,o,t,p,f,g⟩).run P w=.ok (.value v) w:=by (intro w hSw; (try dsimp only at hSw); go_simp; try with_reducible rfl)) (ha:a.put d v=a':=by ((try simp only [Act.put,sqA,sqB,sqC]); with_reducible rfl)) (hl:listed.setIfInBounds i true=listed':=by ((try simp only [sqA,sqB,sqC]); with_reducible rfl)) (hw:Region.wanted ⟨d,o,t,p,f,g⟩ (yielded ops a.tmps)=true:=by rfl) (hs:Region.noSelect ops=true:=by kernel_rfl) (hf:Region.free md ops listed i=true:=by kernel_rfl) (hr:(Region.ready md ops listed).contains i=true:=by kernel_rfl) (hQ:∀ c a w,Q (.panic c) (a.put d v) w→Q (.panic c) a w:=by exact fun _ _ _ h => h) (hS:S w:=by assumption):wpAnyH P md ops Q S (fuel + 1) listed a w:=by
 subst ha
 subst hl
 exact wpAnyH_take hi hs hf hr hQ (Or.inl ⟨hw,hv⟩) hS h
theorem skR {listed':Array Bool} {a':Act} (i:Nat) (hi:ops[i]?=some ⟨d,o,t,p,f,g⟩) (h:wpAnyH P md ops Q S fuel listed' a' w) (ha:a.put d undef=a':=by ((try simp only [Act.put,sqA,sqB,sqC]); with_reducible rfl)) (hl:listed.setIfInBounds i true=listed':=by ((try simp only [sqA,sqB,sqC]); with_reducible rfl)) (hw:Region.wanted ⟨d,o,t,p,f,g⟩ (yielded ops a.tmps)=false:=by rfl) (hs:Region.noSelect ops=true:=by kernel_rfl) (hf:Region.free md ops listed i=true:=by kernel_rfl) (hr:(Region.ready md ops listed).contains i=true:=by kernel_rfl) (hQ:∀ c a w,Q (.panic c) (a.put d undef) w→Q (.panic c) a w:=by exact fun _ _ _ h => h) (hS:S w:=by assumption):wpAnyH P md ops Q S (fuel + 1) listed a w:=by
 subst ha
 subst hl
 exact wpAnyH_take hi hs hf hr hQ (Or.inr ⟨hw,rfl⟩) hS h
theorem clR (i:Nat) (hi:ops[i]?=some ⟨d,o,t,p,f,g⟩)
  (h:∀ K':Act→World→Prop,Shut (∀ a w,S w→(S w→wpAnyH P md ops Q S fuel (listed.setIfInBounds i true) a w)→K' a w)→if Region.wanted ⟨d,o,t,p,f,g⟩ (yielded ops a.tmps)=true then Oper.wp P ⟨d,o,t,p,f,g⟩ a w K' Q else K' (a.put d undef) w) (hr:Region.ready md ops listed=[i]:=by kernel_rfl):wpAnyH P md ops Q S (fuel + 1) listed a w :=
 wpAnyH_ready hr (List.cons_ne_nil _ _) (AllReadyH.cons hi h AllReadyH.nil)
theorem acR {i:Nat} {rs:List Nat} (hi:ops[i]?=some ⟨d,o,t,p,f,g⟩)
  (h:∀ K':Act→World→Prop,Shut (∀ a w,S w→(S w→wpAnyH P md ops Q S fuel (listed.setIfInBounds i true) a w)→K' a w)→if Region.wanted ⟨d,o,t,p,f,g⟩ (yielded ops a.tmps)=true then Oper.wp P ⟨d,o,t,p,f,g⟩ a w K' Q else K' (a.put d undef) w) (hs:AllReadyH P md ops Q S fuel listed a w rs):AllReadyH P md ops Q S fuel listed a w (i :: rs):=AllReadyH.cons hi h hs
end
end
section
open Go.RowKit
def distN (now t:Nat):Nat:=(now + 4294967296 - t) % 4294967296
def ageN (now t:Nat):Nat:=if distN now t < 2147483648 then distN now t else 0
def oldB (now t lim:Nat):Bool:=decide (lim < ageN now t)
theorem distN_lt (now t:Nat):distN now t < 4294967296:=Nat.mod_lt _ (by omega)
theorem ageN_in {now t:Nat} (h:distN now t < 2147483648):ageN now t=distN now t:=if_pos h
theorem ageN_out {now t:Nat} (h:¬ distN now t < 2147483648):ageN now t=0:=if_neg h
theorem wrap_dist {now t:Nat} (h:now < 4294967296) (ht:t < 4294967296):IntKind.u32.wrap ((now:Int) - (t:Int))=((distN now t:Nat):Int):=by
 rw [IntKind.wrap_u32]; unfold distN; omega
set_option maxHeartbeats 400000 in
theorem ticks_Age (now t:Nat) (hn:now < 4294967296) (ht:t < 4294967296) (w:World) :
  Calls Try.prog 115 #[.int .u32 (now:Int),.int .u32 (t:Int)] w fun e w' => e=.returned (.int .u32 (ageN now t:Nat))∧w=w':=by
 obtain ⟨x,hd⟩:∃ x,distN now t=x:=⟨_,rfl⟩
 have hw:=wrap_dist hn ht
 have hx:=distN_lt now t
 have hi:=@ageN_in now t
 have ho:=@ageN_out now t
 rw [hd] at hw hx hi ho
 clear hd
 by_cases h:¬ 2147483648≤(x:Int)
 ·rw [hi (by omega)]
  have hx':¬ 4294967296≤(x:Int):=by omega
  clear hi ho hx
  go_enter Try.func115,Try.ntmps115
  go_wp2
  go_ret
  exact ⟨rfl,rfl⟩
 ·rw [ho (by omega)]
  have hx':¬ 4294967296≤(x:Int):=by omega
  replace h:=Decidable.not_not.1 h
  clear hi ho hx
  go_enter Try.func115,Try.ntmps115
  go_wp2
  go_ret
  exact ⟨rfl,rfl⟩
set_option maxHeartbeats 400000 in
theorem ticks_Old (now t lim:Nat) (hn:now < 4294967296) (ht:t < 4294967296) (w:World) :
  Calls Try.prog 99 #[.int .u32 (now:Int),.int .u32 (t:Int),.int .u32 (lim:Int)] w fun e w' => e=.returned (.bool (oldB now t lim))∧w=w':=by
 have hA:=Lib.hid fun W => ticks_Age now t hn ht W
 unfold oldB
 generalize ageN now t=x at *
 go_enter Try.func99,Try.ntmps99
 go_wp2_with fail
 refine (hA.out _).mono ?_
 rintro e w1 ⟨rfl,rfl⟩
 go_wp2
 go_ret
 exact ⟨ret_bool (by simp),rfl⟩
end
section
open Go.RowKit
theorem kp6 {w w':World} {b o0 o1 o2 o3 o4 o5:Nat} {v0 v1 v2 v3 v4 v5:Value} (h:w.cell? ⟨b,o0,none⟩=some v0∧w.cell? ⟨b,o1,none⟩=some v1∧w.cell? ⟨b,o2,none⟩=some v2∧w.cell? ⟨b,o3,none⟩=some v3∧w.cell? ⟨b,o4,none⟩=some v4∧w.cell? ⟨b,o5,none⟩=some v5) (hk:∀ p:Addr,p.block=b→w'.cell? p=w.cell? p) :
  w'.cell? ⟨b,o0,none⟩=some v0∧w'.cell? ⟨b,o1,none⟩=some v1∧w'.cell? ⟨b,o2,none⟩=some v2∧w'.cell? ⟨b,o3,none⟩=some v3∧w'.cell? ⟨b,o4,none⟩=some v4∧w'.cell? ⟨b,o5,none⟩=some v5 :=
 ⟨(hk _ rfl).trans h.1,(hk _ rfl).trans h.2.1,(hk _ rfl).trans h.2.2.1,(hk _ rfl).trans h.2.2.2.1,(hk _ rfl).trans h.2.2.2.2.1,(hk _ rfl).trans h.2.2.2.2.2⟩
end
section
open Go.RowKit
theorem heap_setCell_far (w:World) (p:Addr) (v:Value) {k:Nat} (h:k ≠ p.block):(w.setCell p v).heap[k]?=w.heap[k]?:=by
 unfold World.setCell
 simp only [Array.getElem?_modify]
 rw [if_neg (fun e => h e.symm)]
theorem heap_setCells_far (b:Nat):∀ (vs:List Value) (o:Nat) (w:World) {k:Nat},k ≠ b→(w.setCells b o vs).heap[k]?=w.heap[k]?
 | [],_,_,_,_ => rfl
 | v :: r,o,w,_,h => (heap_setCells_far b r (o + 1) _ h).trans (heap_setCell_far w ⟨b,o,none⟩ v h)
theorem below_setCells {B b:Nat} (hB:B≤b):∀ (vs:List Value) (o:Nat) (w0 w:World),Below B w0 w→Below B w0 (w.setCells b o vs)
 | [],_,_,_,h => h
 | v :: r,o,w0,_,h => below_setCells hB r (o + 1) w0 _ (h.setCell hB v)
theorem size_setCells (b:Nat):∀ (vs:List Value) (o:Nat) (w:World),(w.setCells b o vs).heap.size=w.heap.size
 | [],_,_ => rfl
 | v :: r,o,w => (size_setCells b r (o + 1) _).trans (by simp)
structure Stored (w:World) (b o:Nat) (vs:List Value) (w':World):Prop where
 cells:∀ j v,vs[j]?=some v→w'.cell? ⟨b,o + j,none⟩=some v
 far:∀ k,k ≠ b→w'.heap[k]?=w.heap[k]?
 size:w'.heap.size=w.heap.size
 below:∀ B,B≤b→Below B w w'
 marks:∀ p,w'.frozen? p=w.frozen? p
theorem Stored.mk_ (w:World) (b o:Nat) (vs:List Value) (ht:w.there b o vs.length):Stored w b o vs (w.setCells b o vs) :=
 ⟨World.rangeAt_setCells_same w b o vs ht,fun _ h => heap_setCells_far b vs o w h,size_setCells b vs o w,fun _ hB => below_setCells hB vs o w w (Below.refl _ _),fun p => World.frozen?_setCells b vs o w p⟩
section
variable {P:Program}
theorem step_store {ops:Array Oper} {op:Oper} {a:Act} {w:World} {K:Act→World→Prop} {Q:Exit→Act→World→Prop} {E:Prop} (hgd:op.guard=none) (ty:TypeId) (x y:Operand) (ho:op.op=.store ty x y)
  (b o:Nat) (cells:Array Value) (hx:a.eval x=.pointer (some ⟨b,o,none⟩)) (hy:a.eval y=.agg cells)
  (ht:w.there b o cells.size) (hi:(P.info? ty).map (·.size)=some cells.size) (h1:cells.all (·.oneCell')=true)
  (h:∀ w',Stored w b o cells.toList w'→K (a.put op.dst undef) w'):if Region.wanted op (yielded ops a.tmps)=true then Oper.wp P op a w K Q else E:=by
 have hw:Region.wanted op (yielded ops a.tmps)=true:=by simp [Region.wanted,hgd]
 rw [if_pos hw]
 exact wp_store_mid ty x y ho b o cells hx hy ht hi h1 (h _ (Stored.mk_ w b o cells.toList (by simpa using ht)))
end
end
section
open Go.ChangeShapes Go.WideShapes Go.RowKit Go.Deep
section
variable {H:Type} {enc:TypeId × Value→H} {P:Program} {w:World} {held:Bool} {base:Nat} {spare:Nat→Bool}
theorem open_whole {r:Reach} {b0:Nat} {t t0:TypeId} {fs:Array Field} {v:Value} {d:DataW H} {p:List MemPlace} (hs:P.underlying t=some (.struct fs)) (hl:leaves P 8 t=some [t0,t0,t0,t0]) (hn:P.cellsOf t=4) (h0:P.underlying t0=some (.int .i64))
  (hv:Value.okWide P w r b0 t v) (h:DataW.Trod enc P w base spare held t v d p) :
  ∃ a b c e:Int,v=.agg #[.int .i64 a,.int .i64 b,.int .i64 c,.int .i64 e]:=by
 obtain ⟨l,rfl,hlen,hf⟩:=open_flat hs hl hn hv h
 obtain ⟨u0,e0,g0⟩:=hf 0 t0 rfl
 obtain ⟨u1,e1,g1⟩:=hf 1 t0 rfl
 obtain ⟨u2,e2,g2⟩:=hf 2 t0 rfl
 obtain ⟨u3,e3,g3⟩:=hf 3 t0 rfl
 obtain ⟨a,rfl,_⟩:=g0.i64 h0
 obtain ⟨b,rfl,_⟩:=g1.i64 h0
 obtain ⟨c,rfl,_⟩:=g2.i64 h0
 obtain ⟨e,rfl,_⟩:=g3.i64 h0
 match l,hlen with
 | [x,y,z,q],_ =>
  simp at e0 e1 e2 e3
  subst e0 e1 e2 e3
  exact ⟨a,b,c,e,rfl⟩
end
end
end Go.Proofs.Ythloabdfkakehaa
