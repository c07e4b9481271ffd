/-
  Words and contracts that a statement's proof rests on (BuA). No statement is proved here.
-/
import Derived.Deep.OwnRows
import Derived.Test.YthloabdfkakehaaBase2
import Derived.Test.YthloabdfkakehaaTicks
import Derived.Test.YthloabdfkakehaaPlainBu
import Derived.Test.YthloabdfkakehaaKeyB
set_option linter.unusedVariables false
set_option linter.unusedSimpArgs false
namespace Go.Proofs.Ythloabdfkakehaa
open Go.RowKit
theorem stPlaces:ST Try.prog 51 127 (.agg #[.bool false,.int .i64 0,.int .u64 0,.int .i64 0,.bool false,.int .u32 0]) 6 40:=ST.mk Try.underlying51 (by kernel_rfl) rfl (by omega) (by omega)
theorem plHolds.keep {w w':World} {b o:Nat} {x:Pl} (h:plHolds w b o x) (hk:∀ p:Addr,p.block=b→w'.cell? p=w.cell? p):plHolds w' b o x :=
 kp6 h hk
def PlRow (w:World) (B:Nat) (v:Value) (n:Nat) (f:Nat→Pl):Prop :=
 ∃ A cap,v=.slice A n cap∧n≤cap∧cap≤maxLen∧(0 < n→∃ b off,A=some ⟨b,off,none⟩∧b < B∧∀ j,j < n→plHolds w b (off + j * 6) (f j))
theorem PlRow.below {w w':World} {B n:Nat} {v:Value} {f:Nat→Pl} (h:PlRow w B v n f) (hb:Below B w w'):PlRow w' B v n f:=by
 obtain ⟨A,cap,hv,h1,h2,h3⟩:=h
 refine ⟨A,cap,hv,h1,h2,fun hn => ?_⟩
 obtain ⟨b,off,e,hb',hc⟩:=h3 hn
 exact ⟨b,off,e,hb',fun j hj => (hc j hj).keep fun p hp => hb.cell (by rw [hp]; exact hb')⟩
theorem PlRow.mono {w:World} {B B' n:Nat} {v:Value} {f:Nat→Pl} (h:PlRow w B v n f) (hB:B≤B'):PlRow w B' v n f:=by
 obtain ⟨A,cap,hv,h1,h2,h3⟩:=h
 refine ⟨A,cap,hv,h1,h2,fun hn => ?_⟩
 obtain ⟨b,off,e,hb',hc⟩:=h3 hn
 exact ⟨b,off,e,Nat.lt_of_lt_of_le hb' hB,hc⟩
theorem PlRow.congr {w:World} {B n:Nat} {v:Value} {f g:Nat→Pl} (h:PlRow w B v n f) (hfg:∀ i,i < n→f i=g i):PlRow w B v n g:=by
 obtain ⟨A,cap,hv,h1,h2,h3⟩:=h
 refine ⟨A,cap,hv,h1,h2,fun hn => ?_⟩
 obtain ⟨b,off,e,hb',hc⟩:=h3 hn
 exact ⟨b,off,e,hb',fun j hj => by rw [← hfg j hj]; exact hc j hj⟩
theorem rowG_holds {w:World} {g M n:Nat} {t:TypeId} {f:Nat→Pl} {G:Nat→Value} (h:w.rowIs g t M G) (hM:n * 6≤M) (hG:∀ j,j < n * 6→G j=rowP f j) {k:Nat} (hk:k < n):plHolds w g (k * 6) (f k):=by
 have q:∀ c,c < 6→w.cell? ⟨g,k * 6 + c,none⟩=some ((f k).cells.getD c (.bool false)):=fun c hc => by
  rw [h.cell (show k * 6 + c < M by omega),hG _ (by omega),rowP_at f k c hc]
 exact ⟨q 0 (by omega),q 1 (by omega),q 2 (by omega),q 3 (by omega),q 4 (by omega),q 5 (by omega)⟩
def RowOf (w:World) (T:TypeId) (B:Nat) (v:Value) (n:Nat) (f:Nat→Pl):Prop :=
 ∃ A cap,v=.slice A n cap∧n≤cap∧cap≤maxLen∧(0 < n→∃ (g:Nat) (G:Nat→Value),A=some ⟨g,0,none⟩∧B≤g∧w.rowIs g T (cap * 6) G∧∀ j,j < n * 6→G j=rowP f j)
theorem RowOf.row {w:World} {T:TypeId} {B n:Nat} {v:Value} {f:Nat→Pl} (h:RowOf w T B v n f):PlRow w w.heap.size v n f:=by
 obtain ⟨A,cap,hv,h1,h2,h3⟩:=h
 refine ⟨A,cap,hv,h1,h2,fun hn => ?_⟩
 obtain ⟨g,F,e,_,hr,hF⟩:=h3 hn
 exact ⟨g,0,e,hr.lt,fun j hj => by rw [Nat.zero_add]; exact rowG_holds hr (by omega) hF hj⟩
theorem RowOf.below {w w':World} {T:TypeId} {B n:Nat} {v:Value} {f:Nat→Pl} (h:RowOf w T B v n f) (hb:Below w.heap.size w w'):RowOf w' T B v n f:=by
 obtain ⟨A,cap,hv,h1,h2,h3⟩:=h
 refine ⟨A,cap,hv,h1,h2,fun hn => ?_⟩
 obtain ⟨g,F,e,hg,hr,hF⟩:=h3 hn
 exact ⟨g,F,e,hg,hr.of_block (hb.block g hr.lt),hF⟩
theorem RowOf.base {w:World} {T:TypeId} {B B' n:Nat} {v:Value} {f:Nat→Pl} (h:RowOf w T B v n f) (hB:B'≤B):RowOf w T B' v n f:=by
 obtain ⟨A,cap,hv,h1,h2,h3⟩:=h
 refine ⟨A,cap,hv,h1,h2,fun hn => ?_⟩
 obtain ⟨g,F,e,hg,hr,hF⟩:=h3 hn
 exact ⟨g,F,e,by omega,hr,hF⟩
theorem RowOf.congr {w:World} {T:TypeId} {B n:Nat} {v:Value} {f g:Nat→Pl} (h:RowOf w T B v n f) (hfg:∀ i,i < n→f i=g i):RowOf w T B v n g:=by
 obtain ⟨A,cap,hv,h1,h2,h3⟩:=h
 refine ⟨A,cap,hv,h1,h2,fun hn => ?_⟩
 obtain ⟨b,F,e,hg,hr,hF⟩:=h3 hn
 exact ⟨b,F,e,hg,hr,fun j hj => (hF j hj).trans (by unfold rowP; rw [hfg (j / 6) (by omega)])⟩
def setP (w:World) (g o:Nat) (u:Bool) (v:Int) (m:Nat) (p:Int) (st:Bool) (s:Nat):World :=
 (((((w.setCell ⟨g,o,none⟩ (.bool u)).setCell ⟨g,o + 1,none⟩ (.int .i64 v)).setCell ⟨g,o + 2,none⟩ (.int .u64 (m:Nat))).setCell ⟨g,o + 3,none⟩ (.int .i64 p)).setCell ⟨g,o + 4,none⟩ (.bool st)).setCell ⟨g,o + 5,none⟩ (.int .u32 (s:Nat))
theorem setP_below {B g:Nat} {a w:World} (h:Below B a w) (hB:B≤g) (o:Nat) (u:Bool) (v:Int) (m:Nat) (p:Int) (st:Bool) (s:Nat):Below B a (setP w g o u v m p st s) :=
 (((((h.setCell hB _).setCell hB _).setCell hB _).setCell hB _).setCell hB _).setCell hB _
theorem RowOf.open_ {w:World} {T:TypeId} {B n:Nat} {v:Value} {f:Nat→Pl} (h:RowOf w T B v n f) (hn:0 < n) :
  ∃ g cap,v=.slice (some ⟨g,0,none⟩) n cap∧n≤cap∧cap≤maxLen∧B≤g∧g < w.heap.size∧(∀ j,j < n→plHolds w g (j * 6) (f j))∧(∀ o,w.frozen? ⟨g,o,none⟩=false) ∧
   ∀ k,∀ (u:Bool) (a:Int) (m:Nat) (p:Int) (st:Bool) (s:Nat),RowOf (setP w g (k * 6) u a m p st s) T B (.slice (some ⟨g,0,none⟩) n cap) n (updP f k ⟨u,⟨a,m,p,st,s⟩⟩):=by
 obtain ⟨A,cap,hv,h1,h2,h3⟩:=h
 obtain ⟨g,F,rfl,hg,hr,hF⟩:=h3 hn
 refine ⟨g,cap,hv,h1,h2,hg,hr.lt,fun j hj => rowG_holds hr (by omega) hF hj,hr.frozen,fun k u a m p st s => ⟨_,cap,rfl,h1,h2,fun _ => ⟨g,_,rfl,hg,((((((hr.set _ _).set _ _).set _ _).set _ _).set _ _).set _ _),fun j hj => ?_⟩⟩⟩
 exact rowP_upd f F k u a m p st s j (hF j hj)
def Gives (T:TypeId) (n:Nat) (f:Nat→Pl) (mk:Value→Value) (w:World) (e:Ending) (w':World):Prop :=
 ∃ v,e=.returned (mk v)∧RowOf w' T w.heap.size v n f∧Below w.heap.size w w'
theorem rowIs_mk6 {w:World} {M:Nat} {e:TypeId}:(w.alloc (.cells (mkC (.agg #[.bool false,.int .i64 0,.int .u64 0,.int .i64 0,.bool false,.int .u32 0]) 6 M) e)).rowIs w.heap.size e (M * 6) (rowP fun _ => pl0):=by
 refine ⟨_,heap_alloc_new w _,by rw [mkC_size],fun i hi => ?_⟩
 unfold mkC madeCells rowP
 have hm:i % 6 < 6:=by omega
 simp only [Value.cells,Array.getElem?_map]
 rw [Array.getElem?_eq_getElem (show i < (Array.range (M * 6)).size by simpa using hi)]
 simp only [Array.getElem_range,Option.map_some]
 rcases (show i % 6=0 ∨ i % 6=1 ∨ i % 6=2 ∨ i % 6=3 ∨ i % 6=4 ∨ i % 6=5 by omega) with h | h | h | h | h | h <;> simp [h,pl0,en0,Pl.cells]
theorem plHolds.alloc {w:World} {b o:Nat} {x:Pl} (h:plHolds w b o x) (hb:b < w.heap.size) (obj:Obj):plHolds (w.alloc obj) b o x :=
 h.keep fun p hp => World.cell?_alloc_lt _ _ _ (by rw [hp]; exact hb)
theorem frozen_alloc {w:World} {b:Nat} (h:∀ o,w.frozen? ⟨b,o,none⟩=false) (hb:b < w.heap.size) (obj:Obj) (o:Nat):(w.alloc obj).frozen? ⟨b,o,none⟩=false:=by
 have:=(bcell ((Below.refl w.heap.size w).alloc (Nat.le_refl _) obj)).2 b o hb
 rw [this]; exact h o
set_option maxHeartbeats 1600000 in
theorem bucket_own {f:Nat→Pl} {n:Nat} {v:Value} {w:World} {B:Nat} (hn:n≤1000000) (hv:PlRow w B v n f) (hB:B≤w.heap.size) :
  Calls Try.prog 96 #[v] w (Gives 127 n (fun i => ownP (f i)) id w):=by
 obtain ⟨A,cap,rfl,h1,h2,h3⟩:=hv
 obtain ⟨w0,hw0⟩:∃ w0,w0=w.alloc (.cells (mkC (.agg #[.bool false,.int .i64 0,.int .u64 0,.int .i64 0,.bool false,.int .u32 0]) 6 n) 127):=⟨_,rfl⟩
 have HR0:Hid (w0.rowIs w.heap.size 127 (n * 6) (rowP fun _ => pl0)):=by rw [hw0]; exact rowIs_mk6
 have HB0:Hid (Below w.heap.size w w0):=by rw [hw0]; exact (Below.refl _ _).alloc (Nat.le_refl _) _
 have hmk:=run_mkFull (P:=Try.prog) w stPlaces n (by omega)
 rw [← hw0] at hmk
 have HC:=Lib.hid h3
 have HN:=Lib.hid hn
 have HCAP:=Lib.hid h1
 unfold maxLen at h2
 clear hw0 h3
 go_enter Try.func96,Try.ntmps96
 go_wp2
 clear hmk
 go_loopw [11] (fun i wr => ∃ k:Nat,k≤n∧i=.int .i64 k∧Hid (wr.rowIs w.heap.size 127 (n * 6) (rowP fun j => if j < k then ownP (f j) else pl0))∧Hid (Below w.heap.size w wr)) (fun i _ => n - (intOf i).toNat)
 case atStart => exact ⟨0,by omega,rfl,HR0.out.congr fun i hi => by simp,HB0.out⟩
 case round =>
  obtain ⟨k,hk,rfl,HR,HB⟩:=hrel
  by_cases hlt:k < n
  ·obtain ⟨b,off,rfl,hb,hc⟩:=HC.out (by omega)
   have g0:(0:Int)≤(k:Int):=Int.natCast_nonneg _
   have g1:(k:Int) < (n:Int):=by omega
   have hzw:w.heap.size + 1≤wr.heap.size:=HR.out.lt
   have hcx:=(hc k hlt).keep (w':=wr) fun p hp => HB.out.cell (by rw [hp]; omega)
   have hrx:=rowP_holds HR.out hlt
   have hfr:=frozen_alloc (HR.out.frozen) (show w.heap.size < wr.heap.size by omega)
   have HNX:Hid (∀ x,f k=x→∀ i,(if i < k + 1 then ownP (f i) else pl0)=updP (fun j => if j < k then ownP (f j) else pl0) k (ownP x) i):=fun x hx i => by
    unfold updP
    by_cases h1:i=k
    ·subst h1; simp [hx]
    ·by_cases h2:i < k
     ·simp [h1,h2,show i < k + 1 by omega]
     ·simp [h1,h2,show ¬ i < k + 1 by omega]
   replace HNX:=Lib.hid (HNX.out _ rfl)
   obtain ⟨f0,hf0⟩:∃ f0,f0=f:=⟨_,rfl⟩
   rw [← hf0] at hrx
   obtain ⟨x,hx⟩:∃ x,x=f k:=⟨_,rfl⟩
   rw [← hx] at hcx HNX
   clear hx hf0
   obtain ⟨u,⟨a,m,p,st,s⟩⟩:=x
   obtain ⟨c0',c1',c2',c3',c4',c5'⟩:=hcx
   have c0:wr.cell? ⟨b,off + k * 6,none⟩=some (.bool u):=c0'
   have c1:wr.cell? ⟨b,off + k * 6 + 1,none⟩=some (.int .i64 a):=c1'
   have c2:wr.cell? ⟨b,off + k * 6 + 2,none⟩=some (.int .u64 (m:Int)):=c2'
   have c3:wr.cell? ⟨b,off + k * 6 + 3,none⟩=some (.int .i64 p):=c3'
   have c4:wr.cell? ⟨b,off + k * 6 + 4,none⟩=some (.bool st):=c4'
   have c5:wr.cell? ⟨b,off + k * 6 + 5,none⟩=some (.int .u32 (s:Int)):=c5'
   have hr0:(if k < k then ownP (f0 k) else pl0)=pl0:=by simp
   rw [hr0] at hrx
   have hpa:=fun o => hrx.alloc (show w.heap.size < wr.heap.size by omega) o
   have p0:∀ o,(wr.alloc o).cell? ⟨w.heap.size,k * 6,none⟩=some (.bool false):=fun o => (hpa o).1
   have p1:∀ o,(wr.alloc o).cell? ⟨w.heap.size,k * 6 + 1,none⟩=some (.int .i64 0):=fun o => (hpa o).2.1
   have p2:∀ o,(wr.alloc o).cell? ⟨w.heap.size,k * 6 + 2,none⟩=some (.int .u64 0):=fun o => (hpa o).2.2.1
   have p3:∀ o,(wr.alloc o).cell? ⟨w.heap.size,k * 6 + 3,none⟩=some (.int .i64 0):=fun o => (hpa o).2.2.2.1
   have p4:∀ o,(wr.alloc o).cell? ⟨w.heap.size,k * 6 + 4,none⟩=some (.bool false):=fun o => (hpa o).2.2.2.2.1
   have p5:∀ o,(wr.alloc o).cell? ⟨w.heap.size,k * 6 + 5,none⟩=some (.int .u32 0):=fun o => (hpa o).2.2.2.2.2
   clear c0' c1' c2' c3' c4' c5' hr0
   clear hpa hrx hc HC
   have hF:(fun j => if j < k + 1 then ownP (f j) else pl0)=updP (fun j => if j < k then ownP (f j) else pl0) k (ownP ⟨u,⟨a,m,p,st,s⟩⟩):=funext HNX.out
   have HF:=Lib.hid hF
   clear hF HNX
   cases u
   ·go_wp2
    go_roundw
    case rel =>
     refine ⟨k + 1,by omega,by go_num,?_,HB.out.alloc (by omega) _⟩
     show World.rowIs _ _ _ _ _
     rw [HF.out]
     refine (HR.out.of_block (Below.heap_alloc _ _ _ HR.out.lt)).congr fun i hi => ?_
     have e:updP (fun j => if j < k then ownP (f j) else pl0) k (ownP ⟨false,⟨a,m,p,st,s⟩⟩)=fun j => if j < k then ownP (f j) else pl0:=by
      funext q
      unfold updP
      split
      ·rename_i h; subst h; simp [ownP]
      ·rfl
     rw [e]
    case measure => simp [intOf]; omega
   ·go_wp2
    go_roundw
    case rel =>
     refine ⟨k + 1,by omega,by go_num,?_,?_⟩
     ·show World.rowIs _ _ _ _ _
      rw [HF.out]
      exact rowP_store (HR.out.of_block (Below.heap_alloc _ _ _ HR.out.lt)) k true a m p st s
     ·exact setP_below (HB.out.alloc (by omega) _) (Nat.le_refl _) (k * 6) true a m p st s
    case measure => simp [intOf]; omega
  ·have:k=n:=by omega
   subst this
   go_wp2
   go_ret
   refine ⟨_,rfl,⟨_,k,rfl,Nat.le_refl _,by have:=HN.out; simp [maxLen]; omega,fun _ => ⟨w.heap.size,_,rfl,Nat.le_refl _,HR.out,fun j hj => by unfold rowP; simp [show j / 6 < k by omega]⟩⟩,HB.out⟩
end Go.Proofs.Ythloabdfkakehaa
