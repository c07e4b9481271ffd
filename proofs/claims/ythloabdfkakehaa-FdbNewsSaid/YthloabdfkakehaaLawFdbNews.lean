/-
  Of all sizes, tries and places it is told whether there may be an Fdb; of what cannot be begun there is no act: the given statement FdbNews, for all its inputs.
-/
import Derived.Test.YthloabdfkakehaaRows
import Derived.Test.YthloabdfkakehaaFgT
import Derived.Test.YthloabdfkakehaaFeI
import Derived.Test.YthloabdfkakehaaBase2
import Derived.Test.YthloabdfkakehaaFeC
import Derived.Test.YthloabdfkakehaaPlainFk
import Derived.Test.YthloabdfkakehaaFeK
import Derived.Test.YthloabdfkakehaaFeL
import Derived.Test.YthloabdfkakehaaPlainFrame
import Derived.WalkMore
import Derived.Test.YthloabdfkakehaaNwA
import Derived.Test.YthloabdfkakehaaNwB
import Derived.Test.YthloabdfkakehaaNwC
import Derived.Test.YthloabdfkakehaaNwD
import Derived.WalkKit
import Derived.ProofKit
import Derived.OpenShut
namespace Go.Proofs.Ythloabdfkakehaa.fdbNews
open Go.ChangeShapes Go.WideShapes Go.ChangeAt Go.RowKit
open Go.ChangeMaps (open_string)
set_option linter.unusedVariables false

theorem own:ownKnob Try.prog.godebug=none:=by kernel_rfl

set_option maxRecDepth 20000 in
set_option maxHeartbeats 12800000 in
theorem walk (W:World) (a0 e0 c0 t0:Int) (a1:Int) (b1:-9223372036854775808≤a1∧a1≤9223372036854775807) (a2:Int) (b2:-9223372036854775808≤a2∧a2≤9223372036854775807) :
    Calls Try.prog 3 #[.agg #[.int .i64 a0,.int .i64 e0,.int .i64 c0,.int .i64 t0],.int .i64 a1,.int .i64 a2] W (Says (.bool true) W):=by
  cases hr:rightS a0 e0 c0
  · exact news_1 W a0 e0 c0 t0 a1 a2 b1 b2 hr
  · obtain ⟨hA1,hB1,hC1⟩:=rightS_yes hr
    obtain ⟨S,rfl⟩:=Int.eq_ofNat_of_zero_le (show 0≤a0 by omega)
    obtain ⟨B,rfl⟩:=Int.eq_ofNat_of_zero_le (show 0≤e0 by omega)
    obtain ⟨n,rfl⟩:=Int.eq_ofNat_of_zero_le (show 0≤c0 by omega)
    have hS:1≤S∧S≤8:=by omega
    have hB:1≤B∧B≤16:=by omega
    have hn:1≤n∧n≤8:=by omega
    cases ht:inB t0 8
    · by_cases h1:1≤t0
      · exact news_2a W S B n t0 a1 a2 b1 b2 hS hB hn ht h1
      · exact news_2b W S B n t0 a1 a2 b1 b2 hS hB hn ht h1
    · have hT9:1≤t0∧t0≤8:=by unfold inB at ht; simpa using ht
      obtain ⟨T,rfl⟩:=Int.eq_ofNat_of_zero_le (show 0≤t0 by omega)
      have hT:1≤T∧T≤8:=by omega
      by_cases g0:0≤a1
      rotate_left
      · exact news_30 W S B n T a1 a2 b1 b2 hS hB hn hT g0
      by_cases g1:0≤a2
      rotate_left
      · exact news_31 W S B n T a1 a2 b1 b2 hS hB hn hT g0 g1
      by_cases g2:a1≤300
      rotate_left
      · exact news_32 W S B n T a1 a2 b1 b2 hS hB hn hT g0 g1 g2
      by_cases g3:a2≤3
      rotate_left
      · exact news_33 W S B n T a1 a2 b1 b2 hS hB hn hT g0 g1 g2 g3
      by_cases g4:((S * B * (1 + 2 * n):Nat):Int)≤300 - a1
      rotate_left
      · exact news_34 W S B n T a1 a2 b1 b2 hS hB hn hT g0 g1 g2 g3 g4
      by_cases g5:(S:Int)≤3 - a2
      rotate_left
      · exact news_35 W S B n T a1 a2 b1 b2 hS hB hn hT g0 g1 g2 g3 g4 g5
      exact news_4 W S B n T a1 a2 b1 b2 hS hB hn hT g0 g1 g2 g3 g4 g5

set_option maxRecDepth 100000 in
/-- What the walk gives,for every argument: the row's own words. -/
theorem contract (H:Type) (enc:TypeId × Value→H) (W:World) (base:Nat) (args:Array Value) (ds gs:List (DataW H)) (before:List MemPlace)
    (hval:∀ (j:Nat) t v,Try.f3.params[j]?=some t→args[j]?=some v→Value.okWide Try.prog W .any base t v)
    (hW:DataW.Whole enc Try.prog Try.f3.params.toList Rows.fdbNewsSpec.vars false W args.toList ds gs before) :
    Calls Try.prog 3 args W fun e W' => ∃ v,e=.returned v∧Rows.fdbNewsSpec.post enc Try.prog Try.f3 false true false false W args v W':=by
  have hW':=hW
  obtain ⟨p,q,hA0,hV,rfl,hfz,hnd⟩:=hW
  have hA:DataW.TrodAll enc Try.prog W 0 (fun _ => true) true Try.f3.params.toList args.toList ds p:=hA0
  rw [Try.params3] at hA hval
  obtain ⟨v0,vs0,d0,ds0,p0,q0,hargs,rfl,rfl,h0,r0⟩:=trodAll_cons hA
  obtain ⟨v1,vs1,d1,ds1,p1,q1,rfl,rfl,rfl,h1,r1⟩:=trodAll_cons r0
  obtain ⟨v2,vs2,d2,ds2,p2,q2,rfl,rfl,rfl,h2,r2⟩:=trodAll_cons r1
  obtain ⟨rfl,rfl,rfl⟩:=trodAll_nil r2
  obtain rfl:args=#[v0,v1,v2]:=by cases args; simp_all
  obtain ⟨a0,e0,c0,t0,rfl⟩:=open_whole Try.underlying25 (t0:=3) (by kernel_rfl) (by kernel_rfl) (by kernel_rfl) (hval 0 25 v0 rfl rfl) h0
  obtain ⟨a1,rfl,b1⟩:=open_i64 Try.underlying3 (hval 1 3 v1 rfl rfl) h1
  obtain ⟨a2,rfl,b2⟩:=open_i64 Try.underlying3 (hval 2 3 v2 rfl rfl) h2
  refine (walk W a0 e0 c0 t0 a1 b1 a2 b2).mono fun e W' ⟨he,hb⟩ => ?_
  subst he
  exact close_true (by kernel_rfl) Try.underlying4 (by kernel_rfl) (by kernel_rfl) rfl rfl hW' hb

set_option maxRecDepth 100000 in
theorem lifted (os:Os) (started:os.Started) (H:Type) (enc:TypeId × Value→H) :
    ReturnsInHanded {} Try.checked os 3 .any (Rows.fdbNewsSpec.pre6 enc Try.prog Try.f3 Rows.fdbNewsRow.domain false) (Rows.fdbNewsSpec.post enc Try.prog Try.f3 false true false false):=by
  refine returnsInHanded_of_change (C:=Try.checked) own started (by kernel_rfl) Try.func3
    (ChangeSpec.witness6 (enc:=enc) (C:=Try.checked) false ⟨#[],#[.agg #[.int .i64 0,.int .i64 0,.int .i64 0,.int .i64 0],.int .i64 0,.int .i64 0],[]⟩ 8 (by kernel_rfl) (by kernel_rfl) (by kernel_rfl) (by kernel_rfl)) ?_
  intro W base args ds gs before hval hW _ _
  exact contract H enc W base args ds gs before hval hW

theorem proved:Rows.FdbNewsSaid :=
  OpenClaim.holds_of_wide 3 Try.f3 rfl rfl rfl rfl rfl rfl rfl ⟨rfl,rfl,rfl,rfl,rfl⟩ rfl rfl rfl rfl rfl (by kernel_rfl) Try.func3 (by kernel_rfl)
    (of_decide_eq_true (by kernel_rfl)) (by unfold Func.isWrapper; first | (rw [if_pos (by decide +kernel)]; kernel_rfl) | (rw [if_neg (by decide +kernel)]; exact ⟨rfl,rfl⟩))
    (fun os started H enc _ => lifted os started H enc)
#print axioms proved
end Go.Proofs.Ythloabdfkakehaa.fdbNews
