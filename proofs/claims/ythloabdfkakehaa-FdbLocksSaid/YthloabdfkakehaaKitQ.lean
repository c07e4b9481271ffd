/-
  Words and contracts that a statement's proof rests on (KitQ). No statement is proved here.
-/
import Derived.Deep.RegionHeld
import Derived.Test.YthloabdfkakehaaTicks
set_option linter.unusedVariables false
set_option linter.unusedSimpArgs false
namespace Go.Proofs.Ythloabdfkakehaa
open Go.RowKit
section
variable {P:Program} {ops:Array Oper} {Q:Exit→Act→World→Prop} {md:Region.Mode} {S:World→Prop} {m:Nat}
def wpAnyP (P:Program) (md:Region.Mode) (ops:Array Oper) (Q:Exit→Act→World→Prop) (S:World→Prop) (m:Nat):Nat→Array Bool→Act→World→Prop
 | 0,listed,a,w => Region.ready md ops listed=[]∧Q .normal a w
 | fuel + 1,listed,a,w =>
  (Region.ready md ops listed=[]→Q .normal a w) ∧
  ∀ i ∈ Region.ready md ops listed,wpOp P ops Q i (fun a' w' => ((listed.setIfInBounds i true).getD m true=false→S w')∧wpAnyP P md ops Q S m fuel (listed.setIfInBounds i true) a' w') a w
theorem wpAny_of_P:∀ (fuel:Nat) (listed:Array Bool) (a:Act) (w:World),wpAnyP P md ops Q S m fuel listed a w→wpAny P md ops Q fuel listed a w
 | 0,_,_,_,h => h
 | fuel + 1,_,_,_,h => ⟨h.1,fun i hi => wpOp_mono (fun a' w' h' => wpAny_of_P fuel _ a' w' h'.2) (h.2 i hi)⟩
def Closed (md:Region.Mode) (ops:Array Oper) (listed:Array Bool):Prop :=
 ∀ (j:Nat) (o:Oper),ops[j]?=some o→listed.getD j false=true→∀ e ∈ o.after,Region.binds md e=true→listed.getD e.on false=true
theorem Closed.add {listed:Array Bool} {j:Nat} (h:Closed md ops listed) (hj:j ∈ Region.ready md ops listed):Closed md ops (listed.setIfInBounds j true):=by
 intro k o ho hk e he hb
 by_cases e9:j=k
 ·subst e9
  obtain ⟨_,o',ho',hall⟩:=mem_ready.1 hj
  rw [ho] at ho'
  injection ho' with ho'
  subst ho'
  exact getD_set_true (hall e he hb)
 ·rw [getD_set_ne false e9] at hk
  exact getD_set_true (h k o ho hk e he hb)
def edge (md:Region.Mode) (ops:Array Oper) (k j:Nat):Bool:=((ops[k]?).map fun o => o.after.any fun e => Region.binds md e && (e.on == j)).getD false
def stops (md:Region.Mode) (ops:Array Oper):Nat→List Nat→Nat→Bool
 | k,[],i => edge md ops k i
 | k,j :: l,i => edge md ops k j && stops md ops j l i
theorem edge_spec {k j:Nat} (h:edge md ops k j=true):∃ o,ops[k]?=some o∧∃ e ∈ o.after,Region.binds md e=true∧e.on=j:=by
 unfold edge at h
 cases ho:ops[k]? with
 | none => rw [ho] at h; cases h
 | some o =>
  rw [ho] at h
  obtain ⟨e,he,hb⟩:=Array.any_eq_true'.1 h
  rw [Bool.and_eq_true] at hb
  exact ⟨o,rfl,e,he,hb.1,by simpa using hb.2⟩
theorem Closed.stops {listed:Array Bool} {i:Nat} (h:Closed md ops listed):∀ (l:List Nat) (k:Nat),listed.getD k false=true→stops md ops k l i=true→listed.getD i false=true
 | [],k,hk,hs => by
  obtain ⟨o,ho,e,he,hb,rfl⟩:=edge_spec hs
  exact h k o ho hk e he hb
 | j :: l,k,hk,hs => by
  rw [Go.Proofs.Ythloabdfkakehaa.stops,Bool.and_eq_true] at hs
  obtain ⟨o,ho,e,he,hb,rfl⟩:=edge_spec hs.1
  exact h.stops l _ (h k o ho hk e he hb) hs.2
theorem stops_spec {listed:Array Bool} {i:Nat} {l:List Nat} (h:stops md ops m l i=true) (hc:Closed md ops listed) (hi:listed.getD i true=false):m ∉ Region.ready md ops listed:=by
 intro hm
 obtain ⟨_,o,ho,hall⟩:=mem_ready.1 hm
 have h9:listed.getD i false=true:=by
  cases l with
  | nil =>
   obtain ⟨o',ho',e,he,hb,rfl⟩:=edge_spec h
   rw [ho] at ho'
   injection ho' with ho'
   subst ho'
   exact hall e he hb
  | cons j l =>
   rw [stops,Bool.and_eq_true] at h
   obtain ⟨o',ho',e,he,hb,rfl⟩:=edge_spec h.1
   rw [ho] at ho'
   injection ho' with ho'
   subst ho'
   exact hc.stops l _ (hall e he hb) h.2
 rcases Nat.lt_or_ge i listed.size with hlt | hge
 ·simp [hlt] at h9 hi
  rw [h9] at hi
  cases hi
 ·simp [Array.getElem?_eq_none hge] at hi
theorem wpAnyP_first {i:Nat} {oi:Oper} {v:Value} (hi:ops[i]?=some oi) (hsel:∀ (j:Nat) (o:Oper) cs b,ops[j]?=some o→o.op ≠ .select cs b)
  (hQ:∀ c a w,Q (.panic c) (a.put oi.dst v) w→Q (.panic c) a w) {lp:List Nat} (hstop:stops md ops m lp i=true) (hmi:m ≠ i) :
  ∀ (fuel:Nat) (listed:Array Bool) (a:Act) (w:World),Closed md ops listed→listed.getD m true=false →
   (∀ j oj,ops[j]?=some oj→j ≠ i→listed.getD j true=false→(∀ e ∈ oj.after,Region.binds md e=true→e.on ≠ i)→oi.apart ops oj=true) →
   i ∈ Region.ready md ops listed→YieldsIf P ops S oi v a→S w →
   wpAnyP P md ops Q S m fuel (listed.setIfInBounds i true) (a.put oi.dst v) w→wpAnyP P md ops Q S m (fuel + 1) listed a w:=by
 intro fuel
 induction fuel with
 | zero =>
  intro listed a w hc hm _ hr hy hS H
  refine ⟨fun h => (by rw [h] at hr; cases hr),fun j hj => ?_⟩
  by_cases hji:j=i
  ·subst hji; exact hy.wpOp hi hS ⟨fun _ => hS,H⟩
  ·have:=ready_mono hj hji
   rw [H.1] at this
   cases this
 | succ fuel ih =>
  intro listed a w hc hm hfree hr hy hS H
  refine ⟨fun h => (by rw [h] at hr; cases hr),fun j hj => ?_⟩
  by_cases hji:j=i
  ·subst hji; exact hy.wpOp hi hS ⟨fun _ => hS,H⟩
  ·have h1:=H.2 j (ready_mono hj hji)
   obtain ⟨hjun,oj,hoj,hall⟩:=mem_ready.1 hj
   have hnot:∀ e ∈ oj.after,Region.binds md e=true→e.on ≠ i:=fun e he hb heq => by
    have h1:=hall e he hb
    have h0:=(mem_ready.1 hr).1
    rw [heq] at h1
    rcases Nat.lt_or_ge i listed.size with h' | h'
    ·simp [h'] at h0 h1; rw [h0] at h1; cases h1
    ·simp [Array.getElem?_eq_none h'] at h1
   have hjm:j ≠ m:=fun e => stops_spec hstop hc (mem_ready.1 hr).1 (e ▸ hj)
   have hmj:(listed.setIfInBounds j true).getD m true=false:=by rw [getD_set_ne true hjm]; exact hm
   have h2:=wpOp_putIf hoj (hfree j oj hoj hji hjun hnot) (fun cs b => hsel i oi cs b hi) (fun cs b => hsel j oj cs b hoj) hQ hy h1
   have hfree':∀ k ok,ops[k]?=some ok→k ≠ i→(listed.setIfInBounds j true).getD k true=false →
     (∀ e ∈ ok.after,Region.binds md e=true→e.on ≠ i)→oi.apart ops ok=true:=fun k ok hk hki hun hno => by
    refine hfree k ok hk hki ?_ hno
    by_cases hjk:j=k
    ·subst hjk; exact hjun
    ·rw [getD_set_ne true hjk] at hun; exact hun
   refine wpOp_mono (fun a' w' h3 => ?_) h2
   have hS':S w':=h3.2.1 (by rw [getD_set_ne true hjm,getD_set_ne true (Ne.symm hmi)]; exact hm)
   refine ⟨fun _ => hS',ih (listed.setIfInBounds j true) a' w' (hc.add hj) hmj hfree' (ready_mono hr (Ne.symm hji)) h3.1 hS' ?_⟩
   rw [Array.setIfInBounds_comm _ _ hji]
   exact h3.2.2
theorem wpAnyP_any {i:Nat} {oi:Oper} {v:Value} (hi:ops[i]?=some oi) (hsel:∀ (j:Nat) (o:Oper) cs b,ops[j]?=some o→o.op ≠ .select cs b)
  (hQ:∀ c a w,Q (.panic c) (a.put oi.dst v) w→Q (.panic c) a w) (hmi:m ≠ i) :
  ∀ (fuel:Nat) (listed:Array Bool) (a:Act) (w:World),(listed.getD m true=false→S w) →
   (∀ j oj,ops[j]?=some oj→j ≠ i→listed.getD j true=false→(∀ e ∈ oj.after,Region.binds md e=true→e.on ≠ i)→oi.apart ops oj=true) →
   i ∈ Region.ready md ops listed→YieldsIf P ops (fun _ => True) oi v a →
   wpAnyP P md ops Q S m fuel (listed.setIfInBounds i true) (a.put oi.dst v) w→wpAnyP P md ops Q S m (fuel + 1) listed a w:=by
 intro fuel
 induction fuel with
 | zero =>
  intro listed a w hS _ hr hy H
  refine ⟨fun h => (by rw [h] at hr; cases hr),fun j hj => ?_⟩
  by_cases hji:j=i
  ·subst hji; exact hy.wpOp hi trivial ⟨fun h => hS (by rw [getD_set_ne true (Ne.symm hmi)] at h; exact h),H⟩
  ·have:=ready_mono hj hji
   rw [H.1] at this
   cases this
 | succ fuel ih =>
  intro listed a w hS hfree hr hy H
  refine ⟨fun h => (by rw [h] at hr; cases hr),fun j hj => ?_⟩
  by_cases hji:j=i
  ·subst hji; exact hy.wpOp hi trivial ⟨fun h => hS (by rw [getD_set_ne true (Ne.symm hmi)] at h; exact h),H⟩
  ·have h1:=H.2 j (ready_mono hj hji)
   obtain ⟨hjun,oj,hoj,hall⟩:=mem_ready.1 hj
   have hnot:∀ e ∈ oj.after,Region.binds md e=true→e.on ≠ i:=fun e he hb heq => by
    have h1:=hall e he hb
    have h0:=(mem_ready.1 hr).1
    rw [heq] at h1
    rcases Nat.lt_or_ge i listed.size with h' | h'
    ·simp [h'] at h0 h1; rw [h0] at h1; cases h1
    ·simp [Array.getElem?_eq_none h'] at h1
   have h2:=wpOp_putIf hoj (hfree j oj hoj hji hjun hnot) (fun cs b => hsel i oi cs b hi) (fun cs b => hsel j oj cs b hoj) hQ hy h1
   have hfree':∀ k ok,ops[k]?=some ok→k ≠ i→(listed.setIfInBounds j true).getD k true=false →
     (∀ e ∈ ok.after,Region.binds md e=true→e.on ≠ i)→oi.apart ops ok=true:=fun k ok hk hki hun hno => by
    refine hfree k ok hk hki ?_ hno
    by_cases hjk:j=k
    ·subst hjk; exact hjun
    ·rw [getD_set_ne true hjk] at hun; exact hun
   refine wpOp_mono (fun a' w' h3 => ?_) h2
   have hS':(listed.setIfInBounds j true).getD m true=false→S w':=fun h => h3.2.1 (by rw [Array.setIfInBounds_comm _ _ (Ne.symm hji),getD_set_ne true (Ne.symm hmi)]; exact h)
   refine ⟨hS',ih (listed.setIfInBounds j true) a' w' hS' hfree' (ready_mono hr (Ne.symm hji)) h3.1 ?_⟩
   rw [Array.setIfInBounds_comm _ _ hji]
   exact h3.2.2
def wpAnyQ (P:Program) (md:Region.Mode) (ops:Array Oper) (Q:Exit→Act→World→Prop) (S:World→Prop) (m:Nat) (fuel:Nat) (listed:Array Bool) (a:Act) (w:World):Prop:=Closed md ops listed→wpAnyP P md ops Q S m fuel listed a w
theorem startQ {id:Nat} {a:Act} {w:World} (m:Nat) (hm:P.follows .mixedOrders=true) (hS:S w.drew) (h:S w.drew→wpAnyQ P .any ops Q S m ops.size (Array.replicate ops.size false) a w.drew):(Code.region id ops true).wp P Q a w :=
 wp_region_any hm (wpAny_of_P _ _ _ _ (h hS fun j o _ hl => by
  rcases Nat.lt_or_ge j ops.size with h9 | h9
  ·simp [h9] at hl
  ·simp [h9] at hl))
variable {fuel:Nat} {listed:Array Bool} {a:Act} {w:World} {d:Option Tmp} {o:Op} {t:TypeId} {p:String} {f:Array Edge} {g:Option (Nat × Bool)} {v:Value}
theorem tkQ {listed':Array Bool} {a':Act} (i:Nat) (lp:List Nat) (hi:ops[i]?=some ⟨d,o,t,p,f,g⟩) (h:wpAnyQ P md ops Q S m fuel listed' a' w) (hv:∀ w,S w→(execOp a.eval ⟨d,o,t,p,f,g⟩).run P w=.ok (.value v) w:=by (intro w hSw; (try dsimp only at hSw); go_simp; try with_reducible rfl)) (ha:a.put d v=a':=by ((try simp only [Act.put,sqA,sqB,sqC]); with_reducible rfl)) (hl:listed.setIfInBounds i true=listed':=by ((try simp only [sqA,sqB,sqC]); with_reducible rfl)) (hw:Region.wanted ⟨d,o,t,p,f,g⟩ (yielded ops a.tmps)=true:=by rfl) (hs:Region.noSelect ops=true:=by kernel_rfl) (hf:Region.free md ops listed i=true:=by kernel_rfl) (hr:(Region.ready md ops listed).contains i=true:=by kernel_rfl) (hQ:∀ c a w,Q (.panic c) (a.put d v) w→Q (.panic c) a w:=by exact fun _ _ _ h => h) (hun:listed.getD m true=false:=by kernel_rfl) (hst:stops md ops m lp i=true:=by kernel_rfl) (hmi:m ≠ i:=by decide) (hS:S w:=by assumption):wpAnyQ P md ops Q S m (fuel + 1) listed a w:=by
 subst ha
 subst hl
 intro hc
 exact wpAnyP_first hi (Region.noSelect_spec hs) hQ hst hmi fuel listed a w hc hun (Region.free_spec hi hf) (by simpa using hr) (Or.inl ⟨hw,hv⟩) hS (h (hc.add (by simpa using hr)))
theorem tkF {listed':Array Bool} {a':Act} (i:Nat) (hi:ops[i]?=some ⟨d,o,t,p,f,g⟩) (h:wpAnyQ P md ops Q S m fuel listed' a' w) (hv:∀ w,True→(execOp a.eval ⟨d,o,t,p,f,g⟩).run P w=.ok (.value v) w:=by (intro w _; go_simp; try with_reducible rfl)) (ha:a.put d v=a':=by ((try simp only [Act.put,sqA,sqB,sqC]); with_reducible rfl)) (hl:listed.setIfInBounds i true=listed':=by ((try simp only [sqA,sqB,sqC]); with_reducible rfl)) (hw:Region.wanted ⟨d,o,t,p,f,g⟩ (yielded ops a.tmps)=true:=by rfl) (hs:Region.noSelect ops=true:=by kernel_rfl) (hf:Region.free md ops listed i=true:=by kernel_rfl) (hr:(Region.ready md ops listed).contains i=true:=by kernel_rfl) (hQ:∀ c a w,Q (.panic c) (a.put d v) w→Q (.panic c) a w:=by exact fun _ _ _ h => h) (hmi:m ≠ i:=by decide) (hS:listed.getD m true=false→S w:=by first | exact fun _ => by assumption | (intro h9; exact absurd h9 (by decide))):wpAnyQ P md ops Q S m (fuel + 1) listed a w:=by
 subst ha
 subst hl
 intro hc
 exact wpAnyP_any hi (Region.noSelect_spec hs) hQ hmi fuel listed a w hS (Region.free_spec hi hf) (by simpa using hr) (Or.inl ⟨hw,hv⟩) (h (hc.add (by simpa using hr)))
def AllReadyQ (P:Program) (md:Region.Mode) (ops:Array Oper) (Q:Exit→Act→World→Prop) (S:World→Prop) (m:Nat) (fuel:Nat) (listed:Array Bool) (a:Act) (w:World) (rs:List Nat):Prop :=
 ∀ i ∈ rs,wpOp P ops Q i (fun a' w' => ((listed.setIfInBounds i true).getD m true=false→S w')∧wpAnyQ P md ops Q S m fuel (listed.setIfInBounds i true) a' w') a w
theorem nilQ:AllReadyQ P md ops Q S m fuel listed a w []:=fun _ h => by cases h
theorem acQ {i:Nat} {rs:List Nat} (hi:ops[i]?=some ⟨d,o,t,p,f,g⟩)
  (h:∀ K':Act→World→Prop,Shut (∀ a w,((listed.setIfInBounds i true).getD m true=false→S w)→(((listed.setIfInBounds i true).getD m true=false→S w)→wpAnyQ P md ops Q S m fuel (listed.setIfInBounds i true) a w)→K' a w)→if Region.wanted ⟨d,o,t,p,f,g⟩ (yielded ops a.tmps)=true then Oper.wp P ⟨d,o,t,p,f,g⟩ a w K' Q else K' (a.put d undef) w) (hs:AllReadyQ P md ops Q S m fuel listed a w rs):AllReadyQ P md ops Q S m fuel listed a w (i :: rs):=fun j hj => by
 rcases List.mem_cons.1 hj with rfl | hj
 ·exact wpOp_step hi (fun K' hK => h K' (fun a w hS hW => hK a w ⟨hS,hW hS⟩))
 ·exact hs j hj
theorem readyQ {rs:List Nat} (hr:Region.ready md ops listed=rs) (hne:rs ≠ []) (h:AllReadyQ P md ops Q S m fuel listed a w rs):wpAnyQ P md ops Q S m (fuel + 1) listed a w:=fun hc =>
 ⟨fun h0 => absurd (hr ▸ h0) hne,fun i hi => by
  have h9:=h i (by rw [← hr]; exact hi)
  exact wpOp_mono (fun a' w' h3 => ⟨h3.1,h3.2 (hc.add hi)⟩) h9⟩
theorem dnQ (h:Q .normal a w) (hr:Region.ready md ops listed=[]:=by kernel_rfl):wpAnyQ P md ops Q S m fuel listed a w:=fun _ => by
 cases fuel with
 | zero => exact ⟨hr,h⟩
 | succ n => exact ⟨fun _ => h,by rw [hr]; simp⟩
end
end Go.Proofs.Ythloabdfkakehaa
