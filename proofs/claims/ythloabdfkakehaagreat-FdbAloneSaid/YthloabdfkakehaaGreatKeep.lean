/-
  Words and contracts that a statement's proof rests on (Kit, Base2, Base3, Keep, KitQ). No statement is proved here.
-/
import Derived.Test.YthloabdfkakehaaGreatProg
import Derived.Handy
import Derived.WalkLawsBesides
import Derived.Lib.Hide
import Derived.Deep.QuietTactic
import Derived.BigQuiet
import Derived.Deep.RegionHeld
import Derived.Test.YthloabdfkakehaaGreatBase
set_option linter.unusedVariables false
set_option linter.unusedSimpArgs false
namespace Go.Proofs.YthloabdfkakehaaGreat
section
open Go.RowKit
theorem ret_u64 {a b:Int} (h:a=b):Ending.returned (.int .u64 a)=.returned (.int .u64 b):=by rw [h]
theorem ret_i64 {a b:Int} (h:a=b):Ending.returned (.int .i64 a)=.returned (.int .i64 b):=by rw [h]
theorem ret_bool {a b:Bool} (h:a=b):Ending.returned (.bool a)=.returned (.bool b):=by rw [h]
def Says (v:Value) (w:World) (e:Ending) (w':World):Prop:=e=.returned v∧Below w.heap.size w w'
theorem below_drewN {B:Nat} {a w:World} (h:Below B a w) (n:Nat):Below B a (w.drewN n):=⟨h.os,h.tape,h.output,h.size,h.block⟩
theorem bcell {W w1:World} {B:Nat} (hb:Below B W w1):(∀ b o,b < B→w1.cell? ⟨b,o,none⟩=W.cell? ⟨b,o,none⟩)∧(∀ b o,b < B→w1.frozen? ⟨b,o,none⟩=W.frozen? ⟨b,o,none⟩) :=
 ⟨fun b o h => hb.cell (p:=⟨b,o,none⟩) h,fun b o h => hb.frozen (p:=⟨b,o,none⟩) h⟩
theorem sqA {α:Type} {l:List α} {i:Nat} {a:α}:l.toArray.setIfInBounds i a=(l.set i a).toArray:=List.setIfInBounds_toArray ..
theorem sqB {α:Type} {x a:α} {l:List α}:(x :: l).set 0 a=a :: l:=List.set_cons_zero
theorem sqC {α:Type} {x a:α} {l:List α} {i:Nat}:(x :: l).set (i + 1) a=x :: l.set i a:=List.set_cons_succ
section
variable {P:Program} {md:Region.Mode} {ops:Array Oper} {Q:Exit→Act→World→Prop} {S:World→Prop} {fuel:Nat} {listed:Array Bool} {a:Act} {w:World} {d:Option Tmp} {o:Op} {t:TypeId} {p:String} {f:Array Edge} {g:Option (Nat × Bool)} {v:Value}
theorem tkR {listed':Array Bool} {a':Act} (i:Nat) (hi:ops[i]?=some ⟨d,o,t,p,f,g⟩) (h:wpAnyH P md ops Q S fuel listed' a' w) (hv:∀ w,S w→(execOp a.eval ⟨d,o,t,p,f,g⟩).run P w=.ok (.value v) w:=by (intro w hSw; (try dsimp only at hSw); go_simp; try with_reducible rfl)) (ha:a.put d v=a':=by ((try simp only [Act.put,sqA,sqB,sqC]); with_reducible rfl)) (hl:listed.setIfInBounds i true=listed':=by ((try simp only [sqA,sqB,sqC]); with_reducible rfl)) (hw:Region.wanted ⟨d,o,t,p,f,g⟩ (yielded ops a.tmps)=true:=by rfl) (hs:Region.noSelect ops=true:=by kernel_rfl) (hf:Region.free md ops listed i=true:=by kernel_rfl) (hr:(Region.ready md ops listed).contains i=true:=by kernel_rfl) (hQ:∀ c a w,Q (.panic c) (a.put d v) w→Q (.panic c) a w:=by exact fun _ _ _ h => h) (hS:S w:=by assumption):wpAnyH P md ops Q S (fuel + 1) listed a w:=by
 subst ha
 subst hl
 exact wpAnyH_take hi hs hf hr hQ (Or.inl ⟨hw,hv⟩) hS h
theorem skR {listed':Array Bool} {a':Act} (i:Nat) (hi:ops[i]?=some ⟨d,o,t,p,f,g⟩) (h:wpAnyH P md ops Q S fuel listed' a' w) (ha:a.put d undef=a':=by ((try simp only [Act.put,sqA,sqB,sqC]); with_reducible rfl)) (hl:listed.setIfInBounds i true=listed':=by ((try simp only [sqA,sqB,sqC]); with_reducible rfl)) (hw:Region.wanted ⟨d,o,t,p,f,g⟩ (yielded ops a.tmps)=false:=by rfl) (hs:Region.noSelect ops=true:=by kernel_rfl) (hf:Region.free md ops listed i=true:=by kernel_rfl) (hr:(Region.ready md ops listed).contains i=true:=by kernel_rfl) (hQ:∀ c a w,Q (.panic c) (a.put d undef) w→Q (.panic c) a w:=by exact fun _ _ _ h => h) (hS:S w:=by assumption):wpAnyH P md ops Q S (fuel + 1) listed a w:=by
 subst ha
 subst hl
 exact wpAnyH_take hi hs hf hr hQ (Or.inr ⟨hw,rfl⟩) hS h
theorem tk {listed':Array Bool} {a':Act} (i:Nat) (h:wpAnyH P md ops Q S fuel listed' a' w) (hi:ops[i]?=some ⟨d,o,t,p,f,g⟩:=by exact rfl) (hv:∀ w,S w→(execOp a.eval ⟨d,o,t,p,f,g⟩).run P w=.ok (.value v) w:=by (intro w hSw; (try dsimp only at hSw); go_simp; try with_reducible rfl)) (ha:a.put d v=a':=by ((try simp only [Act.put,sqA,sqB,sqC]); with_reducible rfl)) (hl:listed.setIfInBounds i true=listed':=by ((try simp only [sqA,sqB,sqC]); with_reducible rfl)) (hw:Region.wanted ⟨d,o,t,p,f,g⟩ (yielded ops a.tmps)=true:=by rfl) (hs:Region.noSelect ops=true:=by kernel_rfl) (hf:Region.free md ops listed i=true:=by kernel_rfl) (hr:(Region.ready md ops listed).contains i=true:=by kernel_rfl) (hQ:∀ c a w,Q (.panic c) (a.put d v) w→Q (.panic c) a w:=by exact fun _ _ _ h => h) (hS:S w:=by assumption):wpAnyH P md ops Q S (fuel + 1) listed a w:=by
 subst ha
 subst hl
 exact wpAnyH_take hi hs hf hr hQ (Or.inl ⟨hw,hv⟩) hS h
theorem clR (i:Nat) (hi:ops[i]?=some ⟨d,o,t,p,f,g⟩)
  (h:∀ K':Act→World→Prop,Shut (∀ a w,S w→(S w→wpAnyH P md ops Q S fuel (listed.setIfInBounds i true) a w)→K' a w)→if Region.wanted ⟨d,o,t,p,f,g⟩ (yielded ops a.tmps)=true then Oper.wp P ⟨d,o,t,p,f,g⟩ a w K' Q else K' (a.put d undef) w) (hr:Region.ready md ops listed=[i]:=by kernel_rfl):wpAnyH P md ops Q S (fuel + 1) listed a w :=
 wpAnyH_ready hr (List.cons_ne_nil _ _) (AllReadyH.cons hi h AllReadyH.nil)
theorem acR {i:Nat} {rs:List Nat} (hi:ops[i]?=some ⟨d,o,t,p,f,g⟩)
  (h:∀ K':Act→World→Prop,Shut (∀ a w,S w→(S w→wpAnyH P md ops Q S fuel (listed.setIfInBounds i true) a w)→K' a w)→if Region.wanted ⟨d,o,t,p,f,g⟩ (yielded ops a.tmps)=true then Oper.wp P ⟨d,o,t,p,f,g⟩ a w K' Q else K' (a.put d undef) w) (hs:AllReadyH P md ops Q S fuel listed a w rs):AllReadyH P md ops Q S fuel listed a w (i :: rs):=AllReadyH.cons hi h hs
end
end
section
open Go.RowKit
def mkC (z:Value) (size M:Nat):Array Value:=madeCells z.cells (M * size)
theorem mkC_size (z:Value) (size M:Nat):(mkC z size M).size=M * size:=size_madeCells _ _
end
section
open Go.RowKit
theorem run_mkFull {P:Program} (w:World) {t e:TypeId} {z:Value} {size bytes:Nat} (hT:ST P t e z size bytes) (k:Nat) (hk:bytes * k≤281474976710656) :
  (Instr.makeSlice t (.int .i64 (k:Int)) (.int .i64 (k:Int))).run P w=.ok (.slice (some ⟨w.heap.size,0,none⟩) k k) (w.alloc (.cells (mkC z size k) e)):=by
 obtain ⟨i,ht,hi,hz,hsz,hby,hzs,hs0,hb0⟩:=hT
 have h1:k≤bytes * k:=Nat.le_mul_of_pos_left _ hb0
 have h2:(i.bytes:Int) * (k:Int)≤281474976710656:=by
  have h3:((bytes * k:Nat):Int)≤281474976710656:=by omega
  rw [hby]
  rwa [Int.natCast_mul] at h3
 have:=run_make (P:=P) w t e i z ht hi hz .i64 .i64 (k:Int) (k:Int) (by omega) (Int.le_refl _) h2 (by omega)
 rw [hsz] at this
 exact this
theorem Sl.set {w:World} {B n b off cap i:Nat} {xs:List Value} (h:Sl w B 1 (.slice (some ⟨b,off,none⟩) n cap) n xs) (hi:i < n) (u:Value):Sl (w.setCell ⟨b,off + i,none⟩ u) B 1 (.slice (some ⟨b,off,none⟩) n cap) n (xs.set i u):=by
 obtain ⟨hl,A',cap',hv,h1,h2,h3⟩:=h
 injection hv with e1 _ e2
 subst e1 e2
 refine ⟨by rw [List.length_set]; exact hl,_,cap,rfl,h1,h2,fun h0 => ?_⟩
 obtain ⟨b',off',hA,hB,hc⟩:=h3 h0
 injection hA with hA
 injection hA with e3 e4
 subst e3 e4
 refine ⟨b,off,rfl,hB,fun j hj => ?_⟩
 by_cases hij:i=j
 ·subst hij
  have hx:=hc i hj
  have hsome:xs[i]?=some (xs[i]'(by omega)):=List.getElem?_eq_getElem _
  rw [World.cell?_setCell_same _ _ _ (hx.trans hsome),List.getElem?_set_self (by omega)]
 ·rw [World.cell?_setCell_other _ _ _ _ (by simp),hc j hj,List.getElem?_set_ne hij]
end
section
open Go.RowKit
theorem kp2 {w w':World} {b o0 o1:Nat} {v0 v1:Value} (h:w.cell? ⟨b,o0,none⟩=some v0∧w.cell? ⟨b,o1,none⟩=some v1) (hk:∀ p:Addr,p.block=b→w'.cell? p=w.cell? p) :
  w'.cell? ⟨b,o0,none⟩=some v0∧w'.cell? ⟨b,o1,none⟩=some v1 :=
 ⟨(hk _ rfl).trans h.1,(hk _ rfl).trans h.2⟩
theorem kp5 {w w':World} {b o0 o1 o2 o3 o4:Nat} {v0 v1 v2 v3 v4:Value} (h:w.cell? ⟨b,o0,none⟩=some v0∧w.cell? ⟨b,o1,none⟩=some v1∧w.cell? ⟨b,o2,none⟩=some v2∧w.cell? ⟨b,o3,none⟩=some v3∧w.cell? ⟨b,o4,none⟩=some v4) (hk:∀ p:Addr,p.block=b→w'.cell? p=w.cell? p) :
  w'.cell? ⟨b,o0,none⟩=some v0∧w'.cell? ⟨b,o1,none⟩=some v1∧w'.cell? ⟨b,o2,none⟩=some v2∧w'.cell? ⟨b,o3,none⟩=some v3∧w'.cell? ⟨b,o4,none⟩=some v4 :=
 ⟨(hk _ rfl).trans h.1,(hk _ rfl).trans h.2.1,(hk _ rfl).trans h.2.2.1,(hk _ rfl).trans h.2.2.2.1,(hk _ rfl).trans h.2.2.2.2⟩
theorem kp6 {w w':World} {b o0 o1 o2 o3 o4 o5:Nat} {v0 v1 v2 v3 v4 v5:Value} (h:w.cell? ⟨b,o0,none⟩=some v0∧w.cell? ⟨b,o1,none⟩=some v1∧w.cell? ⟨b,o2,none⟩=some v2∧w.cell? ⟨b,o3,none⟩=some v3∧w.cell? ⟨b,o4,none⟩=some v4∧w.cell? ⟨b,o5,none⟩=some v5) (hk:∀ p:Addr,p.block=b→w'.cell? p=w.cell? p) :
  w'.cell? ⟨b,o0,none⟩=some v0∧w'.cell? ⟨b,o1,none⟩=some v1∧w'.cell? ⟨b,o2,none⟩=some v2∧w'.cell? ⟨b,o3,none⟩=some v3∧w'.cell? ⟨b,o4,none⟩=some v4∧w'.cell? ⟨b,o5,none⟩=some v5 :=
 ⟨(hk _ rfl).trans h.1,(hk _ rfl).trans h.2.1,(hk _ rfl).trans h.2.2.1,(hk _ rfl).trans h.2.2.2.1,(hk _ rfl).trans h.2.2.2.2.1,(hk _ rfl).trans h.2.2.2.2.2⟩
end
section
open Go.RowKit
section
variable {P:Program} {ops:Array Oper} {Q:Exit→Act→World→Prop} {md:Region.Mode} {S:World→Prop} {m:Nat}
def wpAnyP (P:Program) (md:Region.Mode) (ops:Array Oper) (Q:Exit→Act→World→Prop) (S:World→Prop) (m:Nat):Nat→Array Bool→Act→World→Prop
 | 0,listed,a,w => Region.ready md ops listed=[]∧Q .normal a w
 | fuel + 1,listed,a,w =>
  (Region.ready md ops listed=[]→Q .normal a w) ∧
  ∀ i ∈ Region.ready md ops listed,wpOp P ops Q i (fun a' w' => ((listed.setIfInBounds i true).getD m true=false→S w')∧wpAnyP P md ops Q S m fuel (listed.setIfInBounds i true) a' w') a w
theorem wpAny_of_P:∀ (fuel:Nat) (listed:Array Bool) (a:Act) (w:World),wpAnyP P md ops Q S m fuel listed a w→wpAny P md ops Q fuel listed a w
 | 0,_,_,_,h => h
 | fuel + 1,_,_,_,h => ⟨h.1,fun i hi => wpOp_mono (fun a' w' h' => wpAny_of_P fuel _ a' w' h'.2) (h.2 i hi)⟩
def Closed (md:Region.Mode) (ops:Array Oper) (listed:Array Bool):Prop :=
 ∀ (j:Nat) (o:Oper),ops[j]?=some o→listed.getD j false=true→∀ e ∈ o.after,Region.binds md e=true→listed.getD e.on false=true
theorem Closed.add {listed:Array Bool} {j:Nat} (h:Closed md ops listed) (hj:j ∈ Region.ready md ops listed):Closed md ops (listed.setIfInBounds j true):=by
 intro k o ho hk e he hb
 by_cases e9:j=k
 ·subst e9
  obtain ⟨_,o',ho',hall⟩:=mem_ready.1 hj
  rw [ho] at ho'
  injection ho' with ho'
  subst ho'
  exact getD_set_true (hall e he hb)
 ·rw [getD_set_ne false e9] at hk
  exact getD_set_true (h k o ho hk e he hb)
def edge (md:Region.Mode) (ops:Array Oper) (k j:Nat):Bool:=((ops[k]?).map fun o => o.after.any fun e => Region.binds md e && (e.on == j)).getD false
def stops (md:Region.Mode) (ops:Array Oper):Nat→List Nat→Nat→Bool
 | k,[],i => edge md ops k i
 | k,j :: l,i => edge md ops k j && stops md ops j l i
theorem edge_spec {k j:Nat} (h:edge md ops k j=true):∃ o,ops[k]?=some o∧∃ e ∈ o.after,Region.binds md e=true∧e.on=j:=by
 unfold edge at h
 cases ho:ops[k]? with
 | none => rw [ho] at h; cases h
 | some o =>
  rw [ho] at h
  obtain ⟨e,he,hb⟩:=Array.any_eq_true'.1 h
  rw [Bool.and_eq_true] at hb
  exact ⟨o,rfl,e,he,hb.1,by simpa using hb.2⟩
theorem Closed.stops {listed:Array Bool} {i:Nat} (h:Closed md ops listed):∀ (l:List Nat) (k:Nat),listed.getD k false=true→stops md ops k l i=true→listed.getD i false=true
 | [],k,hk,hs => by
  obtain ⟨o,ho,e,he,hb,rfl⟩:=edge_spec hs
  exact h k o ho hk e he hb
 | j :: l,k,hk,hs => by
  rw [Go.Proofs.YthloabdfkakehaaGreat.stops,Bool.and_eq_true] at hs
  obtain ⟨o,ho,e,he,hb,rfl⟩:=edge_spec hs.1
  exact h.stops l _ (h k o ho hk e he hb) hs.2
theorem stops_spec {listed:Array Bool} {i:Nat} {l:List Nat} (h:stops md ops m l i=true) (hc:Closed md ops listed) (hi:listed.getD i true=false):m ∉ Region.ready md ops listed:=by
 intro hm
 obtain ⟨_,o,ho,hall⟩:=mem_ready.1 hm
 have h9:listed.getD i false=true:=by
  cases l with
  | nil =>
   obtain ⟨o',ho',e,he,hb,rfl⟩:=edge_spec h
   rw [ho] at ho'
   injection ho' with ho'
   subst ho'
   exact hall e he hb
  | cons j l =>
   rw [stops,Bool.and_eq_true] at h
   obtain ⟨o',ho',e,he,hb,rfl⟩:=edge_spec h.1
   rw [ho] at ho'
   injection ho' with ho'
   subst ho'
   exact hc.stops l _ (hall e he hb) h.2
 rcases Nat.lt_or_ge i listed.size with hlt | hge
 ·simp [hlt] at h9 hi
  rw [h9] at hi
  cases hi
 ·simp [Array.getElem?_eq_none hge] at hi
theorem wpAnyP_first {i:Nat} {oi:Oper} {v:Value} (hi:ops[i]?=some oi) (hsel:∀ (j:Nat) (o:Oper) cs b,ops[j]?=some o→o.op ≠ .select cs b)
  (hQ:∀ c a w,Q (.panic c) (a.put oi.dst v) w→Q (.panic c) a w) {lp:List Nat} (hstop:stops md ops m lp i=true) (hmi:m ≠ i) :
  ∀ (fuel:Nat) (listed:Array Bool) (a:Act) (w:World),Closed md ops listed→listed.getD m true=false →
   (∀ j oj,ops[j]?=some oj→j ≠ i→listed.getD j true=false→(∀ e ∈ oj.after,Region.binds md e=true→e.on ≠ i)→oi.apart ops oj=true) →
   i ∈ Region.ready md ops listed→YieldsIf P ops S oi v a→S w →
   wpAnyP P md ops Q S m fuel (listed.setIfInBounds i true) (a.put oi.dst v) w→wpAnyP P md ops Q S m (fuel + 1) listed a w:=by
 intro fuel
 induction fuel with
 | zero =>
  intro listed a w hc hm _ hr hy hS H
  refine ⟨fun h => (by rw [h] at hr; cases hr),fun j hj => ?_⟩
  by_cases hji:j=i
  ·subst hji; exact hy.wpOp hi hS ⟨fun _ => hS,H⟩
  ·have:=ready_mono hj hji
   rw [H.1] at this
   cases this
 | succ fuel ih =>
  intro listed a w hc hm hfree hr hy hS H
  refine ⟨fun h => (by rw [h] at hr; cases hr),fun j hj => ?_⟩
  by_cases hji:j=i
  ·subst hji; exact hy.wpOp hi hS ⟨fun _ => hS,H⟩
  ·have h1:=H.2 j (ready_mono hj hji)
   obtain ⟨hjun,oj,hoj,hall⟩:=mem_ready.1 hj
   have hnot:∀ e ∈ oj.after,Region.binds md e=true→e.on ≠ i:=fun e he hb heq => by
    have h1:=hall e he hb
    have h0:=(mem_ready.1 hr).1
    rw [heq] at h1
    rcases Nat.lt_or_ge i listed.size with h' | h'
    ·simp [h'] at h0 h1; rw [h0] at h1; cases h1
    ·simp [Array.getElem?_eq_none h'] at h1
   have hjm:j ≠ m:=fun e => stops_spec hstop hc (mem_ready.1 hr).1 (e ▸ hj)
   have hmj:(listed.setIfInBounds j true).getD m true=false:=by rw [getD_set_ne true hjm]; exact hm
   have h2:=wpOp_putIf hoj (hfree j oj hoj hji hjun hnot) (fun cs b => hsel i oi cs b hi) (fun cs b => hsel j oj cs b hoj) hQ hy h1
   have hfree':∀ k ok,ops[k]?=some ok→k ≠ i→(listed.setIfInBounds j true).getD k true=false →
     (∀ e ∈ ok.after,Region.binds md e=true→e.on ≠ i)→oi.apart ops ok=true:=fun k ok hk hki hun hno => by
    refine hfree k ok hk hki ?_ hno
    by_cases hjk:j=k
    ·subst hjk; exact hjun
    ·rw [getD_set_ne true hjk] at hun; exact hun
   refine wpOp_mono (fun a' w' h3 => ?_) h2
   have hS':S w':=h3.2.1 (by rw [getD_set_ne true hjm,getD_set_ne true (Ne.symm hmi)]; exact hm)
   refine ⟨fun _ => hS',ih (listed.setIfInBounds j true) a' w' (hc.add hj) hmj hfree' (ready_mono hr (Ne.symm hji)) h3.1 hS' ?_⟩
   rw [Array.setIfInBounds_comm _ _ hji]
   exact h3.2.2
theorem wpAnyP_any {i:Nat} {oi:Oper} {v:Value} (hi:ops[i]?=some oi) (hsel:∀ (j:Nat) (o:Oper) cs b,ops[j]?=some o→o.op ≠ .select cs b)
  (hQ:∀ c a w,Q (.panic c) (a.put oi.dst v) w→Q (.panic c) a w) (hmi:m ≠ i) :
  ∀ (fuel:Nat) (listed:Array Bool) (a:Act) (w:World),(listed.getD m true=false→S w) →
   (∀ j oj,ops[j]?=some oj→j ≠ i→listed.getD j true=false→(∀ e ∈ oj.after,Region.binds md e=true→e.on ≠ i)→oi.apart ops oj=true) →
   i ∈ Region.ready md ops listed→YieldsIf P ops (fun _ => True) oi v a →
   wpAnyP P md ops Q S m fuel (listed.setIfInBounds i true) (a.put oi.dst v) w→wpAnyP P md ops Q S m (fuel + 1) listed a w:=by
 intro fuel
 induction fuel with
 | zero =>
  intro listed a w hS _ hr hy H
  refine ⟨fun h => (by rw [h] at hr; cases hr),fun j hj => ?_⟩
  by_cases hji:j=i
  ·subst hji; exact hy.wpOp hi trivial ⟨fun h => hS (by rw [getD_set_ne true (Ne.symm hmi)] at h; exact h),H⟩
  ·have:=ready_mono hj hji
   rw [H.1] at this
   cases this
 | succ fuel ih =>
  intro listed a w hS hfree hr hy H
  refine ⟨fun h => (by rw [h] at hr; cases hr),fun j hj => ?_⟩
  by_cases hji:j=i
  ·subst hji; exact hy.wpOp hi trivial ⟨fun h => hS (by rw [getD_set_ne true (Ne.symm hmi)] at h; exact h),H⟩
  ·have h1:=H.2 j (ready_mono hj hji)
   obtain ⟨hjun,oj,hoj,hall⟩:=mem_ready.1 hj
   have hnot:∀ e ∈ oj.after,Region.binds md e=true→e.on ≠ i:=fun e he hb heq => by
    have h1:=hall e he hb
    have h0:=(mem_ready.1 hr).1
    rw [heq] at h1
    rcases Nat.lt_or_ge i listed.size with h' | h'
    ·simp [h'] at h0 h1; rw [h0] at h1; cases h1
    ·simp [Array.getElem?_eq_none h'] at h1
   have h2:=wpOp_putIf hoj (hfree j oj hoj hji hjun hnot) (fun cs b => hsel i oi cs b hi) (fun cs b => hsel j oj cs b hoj) hQ hy h1
   have hfree':∀ k ok,ops[k]?=some ok→k ≠ i→(listed.setIfInBounds j true).getD k true=false →
     (∀ e ∈ ok.after,Region.binds md e=true→e.on ≠ i)→oi.apart ops ok=true:=fun k ok hk hki hun hno => by
    refine hfree k ok hk hki ?_ hno
    by_cases hjk:j=k
    ·subst hjk; exact hjun
    ·rw [getD_set_ne true hjk] at hun; exact hun
   refine wpOp_mono (fun a' w' h3 => ?_) h2
   have hS':(listed.setIfInBounds j true).getD m true=false→S w':=fun h => h3.2.1 (by rw [Array.setIfInBounds_comm _ _ (Ne.symm hji),getD_set_ne true (Ne.symm hmi)]; exact h)
   refine ⟨hS',ih (listed.setIfInBounds j true) a' w' hS' hfree' (ready_mono hr (Ne.symm hji)) h3.1 ?_⟩
   rw [Array.setIfInBounds_comm _ _ hji]
   exact h3.2.2
def wpAnyQ (P:Program) (md:Region.Mode) (ops:Array Oper) (Q:Exit→Act→World→Prop) (S:World→Prop) (m:Nat) (fuel:Nat) (listed:Array Bool) (a:Act) (w:World):Prop:=Closed md ops listed→wpAnyP P md ops Q S m fuel listed a w
theorem startQ {id:Nat} {a:Act} {w:World} (m:Nat) (hm:P.follows .mixedOrders=true) (hS:S w.drew) (h:S w.drew→wpAnyQ P .any ops Q S m ops.size (Array.replicate ops.size false) a w.drew):(Code.region id ops true).wp P Q a w :=
 wp_region_any hm (wpAny_of_P _ _ _ _ (h hS fun j o _ hl => by
  rcases Nat.lt_or_ge j ops.size with h9 | h9
  ·simp [h9] at hl
  ·simp [h9] at hl))
variable {fuel:Nat} {listed:Array Bool} {a:Act} {w:World} {d:Option Tmp} {o:Op} {t:TypeId} {p:String} {f:Array Edge} {g:Option (Nat × Bool)} {v:Value}
theorem tkQ {listed':Array Bool} {a':Act} (i:Nat) (lp:List Nat) (hi:ops[i]?=some ⟨d,o,t,p,f,g⟩) (h:wpAnyQ P md ops Q S m fuel listed' a' w) (hv:∀ w,S w→(execOp a.eval ⟨d,o,t,p,f,g⟩).run P w=.ok (.value v) w:=by (intro w hSw; (try dsimp only at hSw); go_simp; try with_reducible rfl)) (ha:a.put d v=a':=by ((try simp only [Act.put,sqA,sqB,sqC]); with_reducible rfl)) (hl:listed.setIfInBounds i true=listed':=by ((try simp only [sqA,sqB,sqC]); with_reducible rfl)) (hw:Region.wanted ⟨d,o,t,p,f,g⟩ (yielded ops a.tmps)=true:=by rfl) (hs:Region.noSelect ops=true:=by kernel_rfl) (hf:Region.free md ops listed i=true:=by kernel_rfl) (hr:(Region.ready md ops listed).contains i=true:=by kernel_rfl) (hQ:∀ c a w,Q (.panic c) (a.put d v) w→Q (.panic c) a w:=by exact fun _ _ _ h => h) (hun:listed.getD m true=false:=by kernel_rfl) (hst:stops md ops m lp i=true:=by kernel_rfl) (hmi:m ≠ i:=by decide) (hS:S w:=by assumption):wpAnyQ P md ops Q S m (fuel + 1) listed a w:=by
 subst ha
 subst hl
 intro hc
 exact wpAnyP_first hi (Region.noSelect_spec hs) hQ hst hmi fuel listed a w hc hun (Region.free_spec hi hf) (by simpa using hr) (Or.inl ⟨hw,hv⟩) hS (h (hc.add (by simpa using hr)))
theorem tkF {listed':Array Bool} {a':Act} (i:Nat) (hi:ops[i]?=some ⟨d,o,t,p,f,g⟩) (h:wpAnyQ P md ops Q S m fuel listed' a' w) (hv:∀ w,True→(execOp a.eval ⟨d,o,t,p,f,g⟩).run P w=.ok (.value v) w:=by (intro w _; go_simp; try with_reducible rfl)) (ha:a.put d v=a':=by ((try simp only [Act.put,sqA,sqB,sqC]); with_reducible rfl)) (hl:listed.setIfInBounds i true=listed':=by ((try simp only [sqA,sqB,sqC]); with_reducible rfl)) (hw:Region.wanted ⟨d,o,t,p,f,g⟩ (yielded ops a.tmps)=true:=by rfl) (hs:Region.noSelect ops=true:=by kernel_rfl) (hf:Region.free md ops listed i=true:=by kernel_rfl) (hr:(Region.ready md ops listed).contains i=true:=by kernel_rfl) (hQ:∀ c a w,Q (.panic c) (a.put d v) w→Q (.panic c) a w:=by exact fun _ _ _ h => h) (hmi:m ≠ i:=by decide) (hS:listed.getD m true=false→S w:=by first | exact fun _ => by assumption | (intro h9; exact absurd h9 (by decide))):wpAnyQ P md ops Q S m (fuel + 1) listed a w:=by
 subst ha
 subst hl
 intro hc
 exact wpAnyP_any hi (Region.noSelect_spec hs) hQ hmi fuel listed a w hS (Region.free_spec hi hf) (by simpa using hr) (Or.inl ⟨hw,hv⟩) (h (hc.add (by simpa using hr)))
def AllReadyQ (P:Program) (md:Region.Mode) (ops:Array Oper) (Q:Exit→Act→World→Prop) (S:World→Prop) (m:Nat) (fuel:Nat) (listed:Array Bool) (a:Act) (w:World) (rs:List Nat):Prop :=
 ∀ i ∈ rs,wpOp P ops Q i (fun a' w' => ((listed.setIfInBounds i true).getD m true=false→S w')∧wpAnyQ P md ops Q S m fuel (listed.setIfInBounds i true) a' w') a w
theorem nilQ:AllReadyQ P md ops Q S m fuel listed a w []:=fun _ h => by cases h
theorem acQ {i:Nat} {rs:List Nat} (hi:ops[i]?=some ⟨d,o,t,p,f,g⟩)
  (h:∀ K':Act→World→Prop,Shut (∀ a w,((listed.setIfInBounds i true).getD m true=false→S w)→(((listed.setIfInBounds i true).getD m true=false→S w)→wpAnyQ P md ops Q S m fuel (listed.setIfInBounds i true) a w)→K' a w)→if Region.wanted ⟨d,o,t,p,f,g⟩ (yielded ops a.tmps)=true then Oper.wp P ⟨d,o,t,p,f,g⟩ a w K' Q else K' (a.put d undef) w) (hs:AllReadyQ P md ops Q S m fuel listed a w rs):AllReadyQ P md ops Q S m fuel listed a w (i :: rs):=fun j hj => by
 rcases List.mem_cons.1 hj with rfl | hj
 ·exact wpOp_step hi (fun K' hK => h K' (fun a w hS hW => hK a w ⟨hS,hW hS⟩))
 ·exact hs j hj
theorem readyQ {rs:List Nat} (hr:Region.ready md ops listed=rs) (hne:rs ≠ []) (h:AllReadyQ P md ops Q S m fuel listed a w rs):wpAnyQ P md ops Q S m (fuel + 1) listed a w:=fun hc =>
 ⟨fun h0 => absurd (hr ▸ h0) hne,fun i hi => by
  have h9:=h i (by rw [← hr]; exact hi)
  exact wpOp_mono (fun a' w' h3 => ⟨h3.1,h3.2 (hc.add hi)⟩) h9⟩
theorem dnQ (h:Q .normal a w) (hr:Region.ready md ops listed=[]:=by kernel_rfl):wpAnyQ P md ops Q S m fuel listed a w:=fun _ => by
 cases fuel with
 | zero => exact ⟨hr,h⟩
 | succ n => exact ⟨fun _ => h,by rw [hr]; simp⟩
end
end
end Go.Proofs.YthloabdfkakehaaGreat
