/-
  Words and contracts that a statement's proof rests on (FdN). No statement is proved here.
-/
import Derived.Test.YthloabdfkakehaaFdC
import Derived.Test.YthloabdfkakehaaFdE
import Derived.Test.YthloabdfkakehaaFdL
import Derived.Test.YthloabdfkakehaaFeL
set_option linter.unusedVariables false
set_option linter.unusedSimpArgs false
namespace Go.Proofs.Ythloabdfkakehaa
open Go.RowKit
section
variable {w:World} {lo b fb L ab:Nat} {E:Nat→Prop} {F:FcS} {m m':MemS} {a a':FaS} {fv lv wv:Value}
def FStep (lo b fb L ab:Nat) (E:Nat→Prop) (F:FcS) (m':MemS) (a':FaS) (w:World) (e:Ending) (w':World):Prop :=
 e=.returned (.bool (decide (a'.st=0)))∧FdbAt w' lo b fb F m'∧FactAt w' L (growE E w w') fb ab F a'∧Tch (FdD lo E) w w'
theorem FKeep.done {e:Ending} {w':World} (h:FKeep lo b fb L ab E F fv lv wv m' a' w e w') (hLw:L≤w.heap.size):FDone lo b fb L ab E F m' a' w e w' :=
 ⟨h.1,h.2.1,h.2.2.1.grows hLw,h.2.2.2⟩
theorem FOver.done {e:Ending} {w':World} (h:FOver lo b fb L ab E F m' a' w e w') (hLw:L≤w.heap.size):FDone lo b fb L ab E F m' a' w e w':=by
 obtain ⟨h1,h2,⟨_,_,_,h3⟩,h4⟩:=h
 exact ⟨h1,h2,h3.grows hLw,h4⟩
set_option maxRecDepth 20000 in
set_option maxHeartbeats 800000 in
theorem step_try (ha:FactIn w L E fb ab F a fv lv wv) (hs:a.st=1) (hc:Calls Try.prog 56 #[.pointer (some ⟨ab,0,none⟩)] w (FDone lo b fb L ab E F m' a' w)) :
  Calls Try.prog 20 #[.pointer (some ⟨ab,0,none⟩)] w (FStep lo b fb L ab E F m' a' w):=by
 have q7:w.cell? ⟨ab,7,none⟩=some (.int .i64 1):=by have h9:=ha.at_ (i:=7) (by omega); rw [h9]; show some (Value.int .i64 (a.st:Nat))=_; rw [hs]; rfl
 have HO:=Lib.hid (fact_Over ha (z:=false) (by rw [hs]; rfl))
 have HC:=Lib.hid hc
 clear ha hs hc
 go_enter Try.func20,Try.ntmps20
 go_wp2_with fail
 refine (HO.out).mono ?_
 rintro e w1 ⟨rfl,rfl⟩
 go_wp2_with fail
 refine (HC.out).mono ?_
 rintro e w2 ⟨rfl,hfd,⟨fv2,lv2,wv2,hact⟩,htc⟩
 obtain ⟨z,hz⟩:∃ z,z=decide (a'.st=0):=⟨_,rfl⟩
 have HO2:=Lib.hid (fact_Over hact hz.symm)
 have HZ:=Lib.hid hz
 have HF:=Lib.hid hfd
 have HA:=Lib.hid hact
 have HT:=Lib.hid htc
 clear hfd hact htc hz HC HO q7
 go_wp2_with fail
 refine (HO2.out).mono ?_
 rintro e w3 ⟨rfl,rfl⟩
 go_wp2
 go_ret
 exact ⟨by rw [HZ.out]; rfl,HF.out,⟨_,_,_,HA.out⟩,HT.out⟩
set_option maxRecDepth 20000 in
set_option maxHeartbeats 800000 in
theorem step_tak (ha:FactIn w L E fb ab F a fv lv wv) (hs:a.st=2) (hc:Calls Try.prog 57 #[.pointer (some ⟨ab,0,none⟩)] w (FDone lo b fb L ab E F m' a' w)) :
  Calls Try.prog 20 #[.pointer (some ⟨ab,0,none⟩)] w (FStep lo b fb L ab E F m' a' w):=by
 have q7:w.cell? ⟨ab,7,none⟩=some (.int .i64 2):=by have h9:=ha.at_ (i:=7) (by omega); rw [h9]; show some (Value.int .i64 (a.st:Nat))=_; rw [hs]; rfl
 have HO:=Lib.hid (fact_Over ha (z:=false) (by rw [hs]; rfl))
 have HC:=Lib.hid hc
 clear ha hs hc
 go_enter Try.func20,Try.ntmps20
 go_wp2_with fail
 refine (HO.out).mono ?_
 rintro e w1 ⟨rfl,rfl⟩
 go_wp2_with fail
 refine (HC.out).mono ?_
 rintro e w2 ⟨rfl,hfd,⟨fv2,lv2,wv2,hact⟩,htc⟩
 obtain ⟨z,hz⟩:∃ z,z=decide (a'.st=0):=⟨_,rfl⟩
 have HO2:=Lib.hid (fact_Over hact hz.symm)
 have HZ:=Lib.hid hz
 have HF:=Lib.hid hfd
 have HA:=Lib.hid hact
 have HT:=Lib.hid htc
 clear hfd hact htc hz HC HO q7
 go_wp2_with fail
 refine (HO2.out).mono ?_
 rintro e w3 ⟨rfl,rfl⟩
 go_wp2
 go_ret
 exact ⟨by rw [HZ.out]; rfl,HF.out,⟨_,_,_,HA.out⟩,HT.out⟩
set_option maxRecDepth 20000 in
set_option maxHeartbeats 800000 in
theorem step_loa (ha:FactIn w L E fb ab F a fv lv wv) (hs:a.st=3) (hc:Calls Try.prog 58 #[.pointer (some ⟨ab,0,none⟩)] w (FDone lo b fb L ab E F m' a' w)) :
  Calls Try.prog 20 #[.pointer (some ⟨ab,0,none⟩)] w (FStep lo b fb L ab E F m' a' w):=by
 have q7:w.cell? ⟨ab,7,none⟩=some (.int .i64 3):=by have h9:=ha.at_ (i:=7) (by omega); rw [h9]; show some (Value.int .i64 (a.st:Nat))=_; rw [hs]; rfl
 have HO:=Lib.hid (fact_Over ha (z:=false) (by rw [hs]; rfl))
 have HC:=Lib.hid hc
 clear ha hs hc
 go_enter Try.func20,Try.ntmps20
 go_wp2_with fail
 refine (HO.out).mono ?_
 rintro e w1 ⟨rfl,rfl⟩
 go_wp2_with fail
 refine (HC.out).mono ?_
 rintro e w2 ⟨rfl,hfd,⟨fv2,lv2,wv2,hact⟩,htc⟩
 obtain ⟨z,hz⟩:∃ z,z=decide (a'.st=0):=⟨_,rfl⟩
 have HO2:=Lib.hid (fact_Over hact hz.symm)
 have HZ:=Lib.hid hz
 have HF:=Lib.hid hfd
 have HA:=Lib.hid hact
 have HT:=Lib.hid htc
 clear hfd hact htc hz HC HO q7
 go_wp2_with fail
 refine (HO2.out).mono ?_
 rintro e w3 ⟨rfl,rfl⟩
 go_wp2
 go_ret
 exact ⟨by rw [HZ.out]; rfl,HF.out,⟨_,_,_,HA.out⟩,HT.out⟩
set_option maxRecDepth 20000 in
set_option maxHeartbeats 800000 in
theorem step_sto (ha:FactIn w L E fb ab F a fv lv wv) (hs:a.st=4) (hc:Calls Try.prog 59 #[.pointer (some ⟨ab,0,none⟩)] w (FDone lo b fb L ab E F m' a' w)) :
  Calls Try.prog 20 #[.pointer (some ⟨ab,0,none⟩)] w (FStep lo b fb L ab E F m' a' w):=by
 have q7:w.cell? ⟨ab,7,none⟩=some (.int .i64 4):=by have h9:=ha.at_ (i:=7) (by omega); rw [h9]; show some (Value.int .i64 (a.st:Nat))=_; rw [hs]; rfl
 have HO:=Lib.hid (fact_Over ha (z:=false) (by rw [hs]; rfl))
 have HC:=Lib.hid hc
 clear ha hs hc
 go_enter Try.func20,Try.ntmps20
 go_wp2_with fail
 refine (HO.out).mono ?_
 rintro e w1 ⟨rfl,rfl⟩
 go_wp2_with fail
 refine (HC.out).mono ?_
 rintro e w2 ⟨rfl,hfd,⟨fv2,lv2,wv2,hact⟩,htc⟩
 obtain ⟨z,hz⟩:∃ z,z=decide (a'.st=0):=⟨_,rfl⟩
 have HO2:=Lib.hid (fact_Over hact hz.symm)
 have HZ:=Lib.hid hz
 have HF:=Lib.hid hfd
 have HA:=Lib.hid hact
 have HT:=Lib.hid htc
 clear hfd hact htc hz HC HO q7
 go_wp2_with fail
 refine (HO2.out).mono ?_
 rintro e w3 ⟨rfl,rfl⟩
 go_wp2
 go_ret
 exact ⟨by rw [HZ.out]; rfl,HF.out,⟨_,_,_,HA.out⟩,HT.out⟩
set_option maxRecDepth 20000 in
set_option maxHeartbeats 800000 in
theorem step_fre (ha:FactIn w L E fb ab F a fv lv wv) (hs:a.st=5) (hc:Calls Try.prog 60 #[.pointer (some ⟨ab,0,none⟩)] w (FDone lo b fb L ab E F m' a' w)) :
  Calls Try.prog 20 #[.pointer (some ⟨ab,0,none⟩)] w (FStep lo b fb L ab E F m' a' w):=by
 have q7:w.cell? ⟨ab,7,none⟩=some (.int .i64 5):=by have h9:=ha.at_ (i:=7) (by omega); rw [h9]; show some (Value.int .i64 (a.st:Nat))=_; rw [hs]; rfl
 have HO:=Lib.hid (fact_Over ha (z:=false) (by rw [hs]; rfl))
 have HC:=Lib.hid hc
 clear ha hs hc
 go_enter Try.func20,Try.ntmps20
 go_wp2_with fail
 refine (HO.out).mono ?_
 rintro e w1 ⟨rfl,rfl⟩
 go_wp2_with fail
 refine (HC.out).mono ?_
 rintro e w2 ⟨rfl,hfd,⟨fv2,lv2,wv2,hact⟩,htc⟩
 obtain ⟨z,hz⟩:∃ z,z=decide (a'.st=0):=⟨_,rfl⟩
 have HO2:=Lib.hid (fact_Over hact hz.symm)
 have HZ:=Lib.hid hz
 have HF:=Lib.hid hfd
 have HA:=Lib.hid hact
 have HT:=Lib.hid htc
 clear hfd hact htc hz HC HO q7
 go_wp2_with fail
 refine (HO2.out).mono ?_
 rintro e w3 ⟨rfl,rfl⟩
 go_wp2
 go_ret
 exact ⟨by rw [HZ.out]; rfl,HF.out,⟨_,_,_,HA.out⟩,HT.out⟩
set_option maxRecDepth 20000 in
set_option maxHeartbeats 800000 in
theorem step_over (hf:FdbAt w lo b fb F m) (ha:FactIn w L E fb ab F a fv lv wv) (hLw:L≤w.heap.size) (hs:a.st=0) :
  Calls Try.prog 20 #[.pointer (some ⟨ab,0,none⟩)] w (FStep lo b fb L ab E F m a w):=by
 have HO:=Lib.hid (fact_Over ha (z:=true) (by rw [hs]; rfl))
 have HF:=Lib.hid hf
 have HA:=Lib.hid ha
 have HS:=Lib.hid hs
 have HL:=Lib.hid hLw
 clear ha hs hf hLw
 go_enter Try.func20,Try.ntmps20
 go_wp2_with fail
 refine (HO.out).mono ?_
 rintro e w1 ⟨rfl,rfl⟩
 go_wp2
 go_ret
 exact ⟨by rw [HS.out]; rfl,HF.out,HA.out.grows HL.out,Tch.refl _ _⟩
end
end Go.Proofs.Ythloabdfkakehaa
