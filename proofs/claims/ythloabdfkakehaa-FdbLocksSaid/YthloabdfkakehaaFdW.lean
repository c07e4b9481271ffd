/-
  Words and contracts that a statement's proof rests on (FdW). No statement is proved here.
-/
import Derived.Test.YthloabdfkakehaaFdP
import Derived.Test.YthloabdfkakehaaFdX
set_option linter.unusedVariables false
set_option linter.unusedSimpArgs false
namespace Go.Proofs.Ythloabdfkakehaa
open Go.RowKit
def PlNew (B n:Nat) (u:Value):Prop:=0 < n→∃ g off cap,u=.slice (some ⟨g,off,none⟩) n cap∧B≤g
theorem RowOf.fresh {w:World} {T:TypeId} {B n:Nat} {v:Value} {f:Nat→Pl} (h:RowOf w T B v n f):PlNew B n v:=by
 obtain ⟨A,cap,hv,h1,h2,h3⟩:=h
 intro hn
 obtain ⟨g,G,e,hg,_⟩:=h3 hn
 exact ⟨g,0,cap,by rw [hv,e],hg⟩
def WkDid (y:Value) (n:Nat) (f:Nat→Pl) (k:Wk) (w:World) (e:Ending) (w':World):Prop :=
 ∃ u,e=.returned (.tuple #[u,.int .i64 (wkF n f k).2])∧PlRow w' w'.heap.size u n (wkF n f k).1∧Below w.heap.size w w'∧(u=y ∨ PlNew w.heap.size n u)
theorem run_callv {P:Program} {ρ:Operand→Value} {o:Oper} {x y:Operand} {ts:Array TypeId} {fn:FuncId} {caps:Array Value} {v:Value} {w:World} {r:Result Next} (ho:o.op=.call { callee:=.value x,args:=#[y],argTypes:=ts })
  (hx:ρ x=.func (.func fn) #[] caps) (hy:ρ y=v) (hrun:(callFunc fn (#[v] ++ caps)).run P w=r):(execOp ρ o).run P w=r:=by
 unfold execOp
 rw [ho]
 simp only [resolve,hx]
 have e:Array.map ρ #[y]=#[v]:=by simp [hy]
 rw [e]
 rw [← hrun]
 rfl
theorem run_callFunc_in {P:Program} {f:FuncId} {fn:Func} {c:Code} (hf:P.funcs[f]?=some fn) (hname:(fn.name == "runtime.NumGoroutine")=false) (hb:fn.body=some c) (args:Array Value) (w:World) :
  (callFunc f args).run P w=.ok (.enter f args) w:=by
 have h1:fn.name ≠ "runtime.NumGoroutine":=by simpa using hname
 simp [callFunc,hf,h1,hb]
section
variable {w:World} {E:Nat→Prop} {f:Nat→Pl} {n:Nat} {y:Value}
theorem VarIs.at_ {l:List Value} {b:Nat} (h:VarIs w E b l) {i:Nat} {v:Value} (hv:l[i]?=some v):w.cell? ⟨b,i,none⟩=some v:=h.2 i v hv
set_option maxHeartbeats 1600000 in
theorem fdb_portOf (hv:PlRow w w.heap.size y n f) (v:Int) (m:Nat) :
  Calls Try.prog 51 #[y,.agg #[.int .i64 v,.int .u64 (m:Int)]] w (Says (.int .i64 (portF f v m n)) w):=by
 have hF:=fun u (hu:Below w.heap.size w u) => bucket_Find (hv.below hu) hu.size v m
 have hbd:=firstJ_bd (keyF f v m) n
 change -1≤findF f v m n∧findF f v m n < n at hbd
 have HP1:Hid (findF f v m n < 0→portF f v m n=-1):=fun h => by unfold portF; rw [if_pos h]
 have HP2:Hid (∀ j:Nat,findF f v m n=(j:Int)→portF f v m n=(f j).e.port):=fun j h => by unfold portF; rw [h,if_neg (by omega),Int.toNat_natCast]
 have HF:=Lib.hid hF
 clear hF
 generalize portF f v m n=r at *
 generalize findF f v m n=x at *
 obtain ⟨A,cap,rfl,c1,c2,c3⟩:=hv
 unfold maxLen at c2
 have HC:=Lib.hid c3
 clear c3
 by_cases hx:x < 0
 ·have hr:=HP1.out hx
  have hd:decide (x < 0)=true:=by simpa using hx
  rw [hr]
  clear HP1 HP2 hr
  go_enter Try.func51,Try.ntmps51
  go_wp2_with fail
  refine (HF.out _ ((Below.refl _ _).alloc (Nat.le_refl _) _)).mono ?_
  rintro e w1 ⟨rfl,hb⟩
  have HB:Hid (Below w.heap.size w w1):=Below.trans ((Below.refl _ _).alloc (Nat.le_refl _) _) (hb.mono (by simp))
  clear hb
  go_wp2
  go_ret
  exact ⟨rfl,HB.out⟩
 ·obtain ⟨j,rfl⟩:=Int.eq_ofNat_of_zero_le (show 0≤x by omega)
  have hr:=HP2.out j rfl
  obtain ⟨b,off,rfl,hb,hc⟩:=HC.out (by omega)
  have hcell:=(hc j (by omega)).2.2.2.1
  rw [hr]
  generalize (f j).e.port=po at *
  have hd:decide ((j:Int) < 0)=false:=by simp
  have g0:(0:Int)≤(j:Int):=Int.natCast_nonneg _
  have g1:(j:Int) < (n:Int):=by omega
  clear HP1 HP2 hr hx hbd hc HC
  go_enter Try.func51,Try.ntmps51
  go_wp2_with fail
  refine (HF.out _ ((Below.refl _ _).alloc (Nat.le_refl _) _)).mono ?_
  rintro e w1 ⟨rfl,hb1⟩
  have HB:Hid (Below w.heap.size w w1):=Below.trans ((Below.refl _ _).alloc (Nat.le_refl _) _) (hb1.mono (by simp))
  have hcell1:w1.cell? ⟨b,off + j * 6 + 3,none⟩=some (.int .i64 po):=(HB.out.cell (p:=⟨b,off + j * 6 + 3,none⟩) hb).trans hcell
  clear hb1 HF
  go_wp2
  go_ret
  exact ⟨rfl,HB.out⟩
set_option maxHeartbeats 1600000 in
theorem wk_look (hv:PlRow w w.heap.size y n f) (hn:n≤1000000) (hst:∀ i,i < n→(f i).e.stamp < 4294967296) (v:Int) (m b:Nat) (h0:VarIs w E b [.int .i64 v,.int .u64 (m:Int)]) (hk:Wk.ok (.look v m)) :
  Calls Try.prog 50 #[y,.pointer (some ⟨b,0,none⟩)] w (WkDid y n f (.look v m) w):=by
 have HC:=Lib.hid (fdb_portOf hv v m)
 have x00:w.cell? ⟨b,0,none⟩=some (.int .i64 v):=h0.at_ (i:=0) rfl
 have x01:w.cell? ⟨b,1,none⟩=some (.int .u64 (m:Int)):=h0.at_ (i:=1) rfl
 clear hst hk h0
 go_enter Try.func50,Try.ntmps50
 obtain ⟨A,cap,rfl,_,_,_⟩:=id hv
 go_wp2_with fail
 refine (HC.out).mono ?_
 rintro e w1 ⟨rfl,hb⟩
 have HB:=Lib.hid hb
 clear hb
 go_wp2
 refine bodyPost_ret (v:=.tuple #[.slice A n cap,.int .i64 (portF f v m n)]) (by simp [results,Try.results50,go_sem]) rfl ⟨_,rfl,(hv.below HB.out).mono HB.out.size,HB.out,.inl rfl⟩
set_option maxHeartbeats 1600000 in
theorem wk_learn (hv:PlRow w w.heap.size y n f) (hn:n≤1000000) (hst:∀ i,i < n→(f i).e.stamp < 4294967296) (v:Int) (m:Nat) (p:Int) (now b b2 b3:Nat) (h0:VarIs w E b [.int .i64 v,.int .u64 (m:Int)]) (h1:VarIs w E b2 [.int .i64 p]) (h2:VarIs w E b3 [.int .u32 (now:Int)]) (hk:Wk.ok (.learn v m p now)) :
  Calls Try.prog 62 #[y,.pointer (some ⟨b,0,none⟩),.pointer (some ⟨b2,0,none⟩),.pointer (some ⟨b3,0,none⟩)] w (WkDid y n f (.learn v m p now) w):=by
 have HC:=Lib.hid (bucket_Learn hn hv (Nat.le_refl _) hst v m hk.1 p now hk.2)
 have x00:w.cell? ⟨b,0,none⟩=some (.int .i64 v):=h0.at_ (i:=0) rfl
 have x01:w.cell? ⟨b,1,none⟩=some (.int .u64 (m:Int)):=h0.at_ (i:=1) rfl
 have x10:w.cell? ⟨b2,0,none⟩=some (.int .i64 p):=h1.at_ (i:=0) rfl
 have x20:w.cell? ⟨b3,0,none⟩=some (.int .u32 (now:Int)):=h2.at_ (i:=0) rfl
 clear hst hk h0 h1 h2 hv
 go_enter Try.func62,Try.ntmps62
 go_wp2_with fail
 refine (HC.out).mono ?_
 rintro e w1 hg
 obtain ⟨u,hu,hr,hb⟩:=hg
 have hr9:=hr
 obtain ⟨A1,cap1,rfl,_,_,_⟩:=hr9
 simp only at hu
 subst hu
 have HR:=Lib.hid hr.row
 have HW9:=Lib.hid hr.fresh
 have HB:=Lib.hid hb
 clear hr hb
 go_wp2
 refine bodyPost_ret (v:=.tuple #[.slice A1 n cap1,.int .i64 ((putF (fun i => ownP (f i)) ⟨v,m,p,false,now⟩ now n).2:Nat)]) (by simp [results,Try.results62,go_sem]) rfl ⟨_,rfl,HR.out,HB.out,.inr HW9.out⟩
set_option maxHeartbeats 1600000 in
theorem wk_order (hv:PlRow w w.heap.size y n f) (hn:n≤1000000) (hst:∀ i,i < n→(f i).e.stamp < 4294967296) (v:Int) (m:Nat) (p:Int) (now b b2 b3:Nat) (h0:VarIs w E b [.int .i64 v,.int .u64 (m:Int)]) (h1:VarIs w E b2 [.int .i64 p]) (h2:VarIs w E b3 [.int .u32 (now:Int)]) (hk:Wk.ok (.order v m p now)) :
  Calls Try.prog 64 #[y,.pointer (some ⟨b,0,none⟩),.pointer (some ⟨b2,0,none⟩),.pointer (some ⟨b3,0,none⟩)] w (WkDid y n f (.order v m p now) w):=by
 have HC:=Lib.hid (bucket_Order hn hv (Nat.le_refl _) hst v m hk.1 p now hk.2)
 have x00:w.cell? ⟨b,0,none⟩=some (.int .i64 v):=h0.at_ (i:=0) rfl
 have x01:w.cell? ⟨b,1,none⟩=some (.int .u64 (m:Int)):=h0.at_ (i:=1) rfl
 have x10:w.cell? ⟨b2,0,none⟩=some (.int .i64 p):=h1.at_ (i:=0) rfl
 have x20:w.cell? ⟨b3,0,none⟩=some (.int .u32 (now:Int)):=h2.at_ (i:=0) rfl
 clear hst hk h0 h1 h2 hv
 go_enter Try.func64,Try.ntmps64
 go_wp2_with fail
 refine (HC.out).mono ?_
 rintro e w1 hg
 obtain ⟨u,hu,hr,hb⟩:=hg
 have hr9:=hr
 obtain ⟨A1,cap1,rfl,_,_,_⟩:=hr9
 simp only at hu
 subst hu
 have HR:=Lib.hid hr.row
 have HW9:=Lib.hid hr.fresh
 have HB:=Lib.hid hb
 clear hr hb
 go_wp2
 refine bodyPost_ret (v:=.tuple #[.slice A1 n cap1,.int .i64 ((putF (fun i => ownP (f i)) ⟨v,m,p,true,0⟩ now n).2:Nat)]) (by simp [results,Try.results64,go_sem]) rfl ⟨_,rfl,HR.out,HB.out,.inr HW9.out⟩
set_option maxHeartbeats 1600000 in
theorem wk_age (hv:PlRow w w.heap.size y n f) (hn:n≤1000000) (hst:∀ i,i < n→(f i).e.stamp < 4294967296) (now lim b b2:Nat) (h0:VarIs w E b [.int .u32 (now:Int)]) (h1:VarIs w E b2 [.int .u32 (lim:Int)]) (hk:Wk.ok (.age now lim)) :
  Calls Try.prog 69 #[y,.pointer (some ⟨b,0,none⟩),.pointer (some ⟨b2,0,none⟩)] w (WkDid y n f (.age now lim) w):=by
 have HC:=Lib.hid (bucket_Age hn hv (Nat.le_refl _) now lim hk hst)
 have x00:w.cell? ⟨b,0,none⟩=some (.int .u32 (now:Int)):=h0.at_ (i:=0) rfl
 have x10:w.cell? ⟨b2,0,none⟩=some (.int .u32 (lim:Int)):=h1.at_ (i:=0) rfl
 clear hst hk h0 h1 hv
 go_enter Try.func69,Try.ntmps69
 go_wp2_with fail
 refine (HC.out).mono ?_
 rintro e w1 hg
 obtain ⟨u,hu,hr,hb⟩:=hg
 have hr9:=hr
 obtain ⟨A1,cap1,rfl,_,_,_⟩:=hr9
 simp only at hu
 subst hu
 have HR:=Lib.hid hr.row
 have HW9:=Lib.hid hr.fresh
 have HB:=Lib.hid hb
 clear hr hb
 go_wp2
 refine bodyPost_ret (v:=.tuple #[.slice A1 n cap1,.int .i64 (goneF (fun i => ownP (f i)) (oldE now lim) n:Nat)]) (by simp [results,Try.results69,go_sem]) rfl ⟨_,rfl,HR.out,HB.out,.inr HW9.out⟩
set_option maxHeartbeats 1600000 in
theorem wk_flush (hv:PlRow w w.heap.size y n f) (hn:n≤1000000) (hst:∀ i,i < n→(f i).e.stamp < 4294967296) (p v:Int) (b:Nat) (h0:VarIs w E b [.int .i64 p,.int .i64 v]) (hk:Wk.ok (.flush p v)) :
  Calls Try.prog 71 #[y,.pointer (some ⟨b,0,none⟩)] w (WkDid y n f (.flush p v) w):=by
 have HC:=Lib.hid (bucket_Flush hn hv (Nat.le_refl _) p v)
 have x00:w.cell? ⟨b,0,none⟩=some (.int .i64 p):=h0.at_ (i:=0) rfl
 have x01:w.cell? ⟨b,1,none⟩=some (.int .i64 v):=h0.at_ (i:=1) rfl
 clear hst hk h0 hv
 go_enter Try.func71,Try.ntmps71
 go_wp2_with fail
 refine (HC.out).mono ?_
 rintro e w1 hg
 obtain ⟨u,hu,hr,hb⟩:=hg
 have hr9:=hr
 obtain ⟨A1,cap1,rfl,_,_,_⟩:=hr9
 simp only at hu
 subst hu
 have HR:=Lib.hid hr.row
 have HW9:=Lib.hid hr.fresh
 have HB:=Lib.hid hb
 clear hr hb
 go_wp2
 refine bodyPost_ret (v:=.tuple #[.slice A1 n cap1,.int .i64 (goneF (fun i => ownP (f i)) (hitE p v) n:Nat)]) (by simp [results,Try.results71,go_sem]) rfl ⟨_,rfl,HR.out,HB.out,.inr HW9.out⟩
set_option maxHeartbeats 1600000 in
theorem wk_drop (hv:PlRow w w.heap.size y n f) (hn:n≤1000000) (hst:∀ i,i < n→(f i).e.stamp < 4294967296) (v:Int) (m b:Nat) (h0:VarIs w E b [.int .i64 v,.int .u64 (m:Int)]) (hk:Wk.ok (.drop v m)) :
  Calls Try.prog 66 #[y,.pointer (some ⟨b,0,none⟩)] w (WkDid y n f (.drop v m) w):=by
 have HC:=Lib.hid (bucket_Drop hn hv (Nat.le_refl _) v m)
 have x00:w.cell? ⟨b,0,none⟩=some (.int .i64 v):=h0.at_ (i:=0) rfl
 have x01:w.cell? ⟨b,1,none⟩=some (.int .u64 (m:Int)):=h0.at_ (i:=1) rfl
 clear hst hk h0 hv
 go_enter Try.func66,Try.ntmps66
 go_wp2_with fail
 refine (HC.out).mono ?_
 rintro e w1 hg
 obtain ⟨u,hu,hr,hb⟩:=hg
 have hr9:=hr
 obtain ⟨A1,cap1,rfl,_,_,_⟩:=hr9
 simp only at hu
 subst hu
 have HR:=Lib.hid hr.row
 have HW9:=Lib.hid hr.fresh
 have HB:=Lib.hid hb
 clear hr hb
 obtain ⟨q,hq⟩:∃ q,q=(dropF (fun i => ownP (f i)) v m n).2:=⟨_,rfl⟩
 rw [← hq]
 have HQ:=Lib.hid hq
 clear hq
 cases q
 ·have HV:Hid ((wkF n f (.drop v m)).2=0):=by show (if (dropF (fun i => ownP (f i)) v m n).2=true then (1:Int) else 0)=0; rw [← HQ.out]; rfl
  go_wp2
  refine bodyPost_ret (v:=.tuple #[.slice A1 n cap1,.int .i64 0]) (by simp [results,Try.results66,go_sem]) rfl ⟨_,by rw [HV.out],HR.out,HB.out,.inr HW9.out⟩
 ·have HV:Hid ((wkF n f (.drop v m)).2=1):=by show (if (dropF (fun i => ownP (f i)) v m n).2=true then (1:Int) else 0)=1; rw [← HQ.out]; rfl
  go_wp2
  refine bodyPost_ret (v:=.tuple #[.slice A1 n cap1,.int .i64 1]) (by simp [results,Try.results66,go_sem]) rfl ⟨_,by rw [HV.out],HR.out,HB.out,.inr HW9.out⟩
theorem wk_call {k:Wk} {fv:Value} (h:WkAt w E k fv) (hk:k.ok) (hn:n≤1000000):∃ fn caps,fv=.func (.func fn) #[] caps∧(∀ (W:World) (args:Array Value),(callFunc fn args).run Try.prog W=.ok (.enter fn args) W) ∧
  ∀ y f,PlRow w w.heap.size y n f→(∀ i,i < n→(f i).e.stamp < 4294967296)→Calls Try.prog fn (#[y] ++ caps) w (WkDid y n f k w):=by
 cases h with
 | look v m b h => exact ⟨_,_,rfl,fun W args => run_callFunc_in Try.func50 (by kernel_rfl) rfl args W,fun y f hv hst => wk_look hv hn hst v m b h hk⟩
 | learn v m p now b b2 b3 h h2 h3 => exact ⟨_,_,rfl,fun W args => run_callFunc_in Try.func62 (by kernel_rfl) rfl args W,fun y f hv hst => wk_learn hv hn hst v m p now b b2 b3 h h2 h3 hk⟩
 | order v m p now b b2 b3 h h2 h3 => exact ⟨_,_,rfl,fun W args => run_callFunc_in Try.func64 (by kernel_rfl) rfl args W,fun y f hv hst => wk_order hv hn hst v m p now b b2 b3 h h2 h3 hk⟩
 | drop v m b h => exact ⟨_,_,rfl,fun W args => run_callFunc_in Try.func66 (by kernel_rfl) rfl args W,fun y f hv hst => wk_drop hv hn hst v m b h hk⟩
 | age now lim b b2 h h2 => exact ⟨_,_,rfl,fun W args => run_callFunc_in Try.func69 (by kernel_rfl) rfl args W,fun y f hv hst => wk_age hv hn hst now lim b b2 h h2 hk⟩
 | flush p v b h => exact ⟨_,_,rfl,fun W args => run_callFunc_in Try.func71 (by kernel_rfl) rfl args W,fun y f hv hst => wk_flush hv hn hst p v b h hk⟩
end
end Go.Proofs.Ythloabdfkakehaa
