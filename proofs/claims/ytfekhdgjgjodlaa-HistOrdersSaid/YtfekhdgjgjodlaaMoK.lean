/-
  Words and contracts that a statement's proof rests on (MoK). No statement is proved here.
-/
import Derived.Test.YtfekhdgjgjodlaaMoU
import Derived.Test.YtfekhdgjgjodlaaMoT
import Derived.Test.YtfekhdgjgjodlaaMrU
set_option linter.unusedVariables false
set_option linter.unusedSimpArgs false
namespace Go.Proofs.Ytfekhdgjgjodlaa
open Go.RowKit
set_option maxRecDepth 20000 in
set_option maxHeartbeats 3200000 in
theorem law17_Op (kd po tt vi sx kv km me un nw li sh bu id:Int) (w:World):Calls Try.prog 11 #[opV kd po tt vi sx kv km me un nw li sh bu id] w (Says (opV kd po tt vi sx kv km me un nw li sh bu id) w):=by
 have HKY:=Lib.hid fun W => law8_To kv km W
 have HBOX:Hid (∀ w',Below (w.heap.size + 2) ((w.alloc (.cells #[.int .i64 kd,.int .i64 po,.int .i64 tt,.int .i64 vi,.int .i64 sx,.int .i64 kv,.int .u64 km,.int .u64 me,.int .u64 un,.int .u32 nw,.int .u32 li,.int .i64 sh,.int .i64 bu,.int .i64 id] 33)).alloc (.cells #[.int .i64 0,.int .i64 0,.int .i64 0,.int .i64 0,.int .i64 0,.int .i64 0,.int .u64 0,.int .u64 0,.int .u64 0,.int .u32 0,.int .u32 0,.int .i64 0,.int .i64 0,.int .i64 0] 43)) w'→w'.cell? ⟨w.heap.size,0,none⟩=some (.int .i64 kd)∧w'.cell? ⟨w.heap.size,1,none⟩=some (.int .i64 po)∧w'.cell? ⟨w.heap.size,2,none⟩=some (.int .i64 tt)∧w'.cell? ⟨w.heap.size,3,none⟩=some (.int .i64 vi)∧w'.cell? ⟨w.heap.size,4,none⟩=some (.int .i64 sx)∧w'.cell? ⟨w.heap.size,5,none⟩=some (.int .i64 kv)∧w'.cell? ⟨w.heap.size,6,none⟩=some (.int .u64 km)∧w'.cell? ⟨w.heap.size,7,none⟩=some (.int .u64 me)∧w'.cell? ⟨w.heap.size,8,none⟩=some (.int .u64 un)∧w'.cell? ⟨w.heap.size,9,none⟩=some (.int .u32 nw)∧w'.cell? ⟨w.heap.size,10,none⟩=some (.int .u32 li)∧w'.cell? ⟨w.heap.size,11,none⟩=some (.int .i64 sh)∧w'.cell? ⟨w.heap.size,12,none⟩=some (.int .i64 bu)∧w'.cell? ⟨w.heap.size,13,none⟩=some (.int .i64 id)):=fun w' hb => by
  refine ⟨?_,?_,?_,?_,?_,?_,?_,?_,?_,?_,?_,?_,?_,?_⟩ <;>
  ·rw [hb.cell (by show w.heap.size < _; omega)]
   simp [go_sem]
 have HLOW:Hid (∀ w',Below (w.heap.size + 2) ((w.alloc (.cells #[.int .i64 kd,.int .i64 po,.int .i64 tt,.int .i64 vi,.int .i64 sx,.int .i64 kv,.int .u64 km,.int .u64 me,.int .u64 un,.int .u32 nw,.int .u32 li,.int .i64 sh,.int .i64 bu,.int .i64 id] 33)).alloc (.cells #[.int .i64 0,.int .i64 0,.int .i64 0,.int .i64 0,.int .i64 0,.int .i64 0,.int .u64 0,.int .u64 0,.int .u64 0,.int .u32 0,.int .u32 0,.int .i64 0,.int .i64 0,.int .i64 0] 43)) w'→Below w.heap.size w w'):=fun w' hb => (((Below.refl w.heap.size w).alloc (Nat.le_refl _) _).alloc (by simp) _).trans (hb.mono (by omega))
 have HSZ:Hid (∀ w',Below (w.heap.size + 2) ((w.alloc (.cells #[.int .i64 kd,.int .i64 po,.int .i64 tt,.int .i64 vi,.int .i64 sx,.int .i64 kv,.int .u64 km,.int .u64 me,.int .u64 un,.int .u32 nw,.int .u32 li,.int .i64 sh,.int .i64 bu,.int .i64 id] 33)).alloc (.cells #[.int .i64 0,.int .i64 0,.int .i64 0,.int .i64 0,.int .i64 0,.int .i64 0,.int .u64 0,.int .u64 0,.int .u64 0,.int .u32 0,.int .u32 0,.int .i64 0,.int .i64 0,.int .i64 0] 43)) w'→w.heap.size + 2≤w'.heap.size):=fun w' hb => by have:=hb.size; simp at this; omega
 have HUP:Hid (∀ w' w'',Below (w.heap.size + 2) ((w.alloc (.cells #[.int .i64 kd,.int .i64 po,.int .i64 tt,.int .i64 vi,.int .i64 sx,.int .i64 kv,.int .u64 km,.int .u64 me,.int .u64 un,.int .u32 nw,.int .u32 li,.int .i64 sh,.int .i64 bu,.int .i64 id] 33)).alloc (.cells #[.int .i64 0,.int .i64 0,.int .i64 0,.int .i64 0,.int .i64 0,.int .i64 0,.int .u64 0,.int .u64 0,.int .u64 0,.int .u32 0,.int .u32 0,.int .i64 0,.int .i64 0,.int .i64 0] 43)) w'→Below w'.heap.size w' w''→Below (w.heap.size + 2) ((w.alloc (.cells #[.int .i64 kd,.int .i64 po,.int .i64 tt,.int .i64 vi,.int .i64 sx,.int .i64 kv,.int .u64 km,.int .u64 me,.int .u64 un,.int .u32 nw,.int .u32 li,.int .i64 sh,.int .i64 bu,.int .i64 id] 33)).alloc (.cells #[.int .i64 0,.int .i64 0,.int .i64 0,.int .i64 0,.int .i64 0,.int .i64 0,.int .u64 0,.int .u64 0,.int .u64 0,.int .u32 0,.int .u32 0,.int .i64 0,.int .i64 0,.int .i64 0] 43)) w''):=fun w' w'' h1 h2 => h1.trans (h2.mono (by have:=h1.size; simp at this; omega))
 unfold opV
 go_enter Try.func11,Try.ntmps11
 go_wp2_with fail
 refine wp_region_held_drew (S:=fun w' => w'.cell? ⟨w.heap.size,0,none⟩=some (.int .i64 kd)∧w'.cell? ⟨w.heap.size,1,none⟩=some (.int .i64 po)∧w'.cell? ⟨w.heap.size,2,none⟩=some (.int .i64 tt)∧w'.cell? ⟨w.heap.size,3,none⟩=some (.int .i64 vi)∧w'.cell? ⟨w.heap.size,4,none⟩=some (.int .i64 sx)∧w'.cell? ⟨w.heap.size,5,none⟩=some (.int .i64 kv)∧w'.cell? ⟨w.heap.size,6,none⟩=some (.int .u64 km)∧w'.cell? ⟨w.heap.size,7,none⟩=some (.int .u64 me)∧w'.cell? ⟨w.heap.size,8,none⟩=some (.int .u64 un)∧w'.cell? ⟨w.heap.size,9,none⟩=some (.int .u32 nw)∧w'.cell? ⟨w.heap.size,10,none⟩=some (.int .u32 li)∧w'.cell? ⟨w.heap.size,11,none⟩=some (.int .i64 sh)∧w'.cell? ⟨w.heap.size,12,none⟩=some (.int .i64 bu)∧w'.cell? ⟨w.heap.size,13,none⟩=some (.int .i64 id)) (by kernel_rfl) ?_ (fun hHeld => ?_)
 ·exact HBOX.out _ (Below.refl _ _).drew
 obtain ⟨v0,hv0⟩:∃ w',w'=(((w.alloc (.cells #[.int .i64 kd,.int .i64 po,.int .i64 tt,.int .i64 vi,.int .i64 sx,.int .i64 kv,.int .u64 km,.int .u64 me,.int .u64 un,.int .u32 nw,.int .u32 li,.int .i64 sh,.int .i64 bu,.int .i64 id] 33)).alloc (.cells #[.int .i64 0,.int .i64 0,.int .i64 0,.int .i64 0,.int .i64 0,.int .i64 0,.int .u64 0,.int .u64 0,.int .u64 0,.int .u32 0,.int .u32 0,.int .i64 0,.int .i64 0,.int .i64 0] 43))).drew:=⟨_,rfl⟩
 have hq0:Below (w.heap.size + 2) ((w.alloc (.cells #[.int .i64 kd,.int .i64 po,.int .i64 tt,.int .i64 vi,.int .i64 sx,.int .i64 kv,.int .u64 km,.int .u64 me,.int .u64 un,.int .u32 nw,.int .u32 li,.int .i64 sh,.int .i64 bu,.int .i64 id] 33)).alloc (.cells #[.int .i64 0,.int .i64 0,.int .i64 0,.int .i64 0,.int .i64 0,.int .i64 0,.int .u64 0,.int .u64 0,.int .u64 0,.int .u32 0,.int .u32 0,.int .i64 0,.int .i64 0,.int .i64 0] 43)) v0:=by rw [hv0]; exact (Below.refl _ _).drew
 have HT0:Hid (v0.there (w.heap.size + 1) 0 14):=by
  rw [hv0,World.there_drew]
  have:=there_of (cs:=#[.int .i64 0,.int .i64 0,.int .i64 0,.int .i64 0,.int .i64 0,.int .i64 0,.int .u64 0,.int .u64 0,.int .u64 0,.int .u32 0,.int .u32 0,.int .i64 0,.int .i64 0,.int .i64 0]) (heap_self (w.alloc (.cells #[.int .i64 kd,.int .i64 po,.int .i64 tt,.int .i64 vi,.int .i64 sx,.int .i64 kv,.int .u64 km,.int .u64 me,.int .u64 un,.int .u32 nw,.int .u32 li,.int .i64 sh,.int .i64 bu,.int .i64 id] 33)) #[.int .i64 0,.int .i64 0,.int .i64 0,.int .i64 0,.int .i64 0,.int .i64 0,.int .u64 0,.int .u64 0,.int .u64 0,.int .u32 0,.int .u32 0,.int .i64 0,.int .i64 0,.int .i64 0] 43)
  rw [World.size_alloc] at this
  exact this
 (try rw [← hv0] at hHeld ⊢)
 clear hv0
 refine tkR 0 rfl ?_
 refine tkR 1 rfl ?_
 refine tkR 2 rfl ?_
 refine tkR 3 rfl ?_
 refine tkR 4 rfl ?_
 refine tkR 5 rfl ?_
 refine tkR 6 rfl ?_
 refine tkR 7 rfl ?_
 refine tkR 8 rfl ?_
 refine tkR 9 rfl ?_
 refine tkR 10 rfl ?_
 refine tkR 11 rfl ?_
 refine tkR 13 rfl ?_
 refine tkR 14 rfl ?_
 refine tkR 15 rfl ?_
 refine tkR 16 rfl ?_
 refine tkR 17 rfl ?_
 refine tkR 18 rfl ?_
 refine tkR 19 rfl ?_
 refine tkR 20 rfl ?_
 refine tkR 21 rfl ?_
 refine tkR 22 rfl ?_
 refine tkR 23 rfl ?_
 refine tkR 24 rfl ?_
 refine tkR 25 rfl ?_
 refine tkR 26 rfl ?_
 refine clR 12 rfl fun K hK => ?_
 go_simp
 refine Calls.mono (HKY.out _) ?_
 rintro e wb ⟨rfl,hbb⟩
 have hqb:=HUP.out _ _ hq0 hbb
 have HTB:Hid (wb.there (w.heap.size + 1) 0 14):=there_below HT0.out hbb (by have:=HSZ.out _ hq0; omega)
 clear hbb
 refine hK.out _ _ ?_ (fun hHeld => ?_)
 ·(try dsimp only)
  exact HBOX.out _ hqb
 clear hK K
 refine tkR 27 rfl ?_
 refine clR 28 rfl fun K hK => ?_
 refine step_store (by rfl) 43 _ _ (by rfl) (w.heap.size + 1) 0 #[.int .i64 kd,.int .i64 po,.int .i64 tt,.int .i64 vi,.int .i64 sx,.int .i64 kv,.int .u64 km,.int .u64 me,.int .u64 un,.int .u32 nw,.int .u32 li,.int .i64 sh,.int .i64 bu,.int .i64 id] (by rfl) (by rfl) HTB.out (by kernel_rfl) (by simp [Value.oneCell']) ?_
 intro wz hst
 refine hK.out _ _ ?_ (fun hHeld => ?_)
 ·(try dsimp only)
  obtain ⟨y0,y1,y2,y3,y4,y5,y6,y7,y8,y9,y10,y11,y12,y13⟩:=HBOX.out _ hqb
  exact ⟨(World.cell?_of_block (a:=⟨w.heap.size,0,none⟩) (hst.far w.heap.size (by omega))).trans y0,(World.cell?_of_block (a:=⟨w.heap.size,1,none⟩) (hst.far w.heap.size (by omega))).trans y1,(World.cell?_of_block (a:=⟨w.heap.size,2,none⟩) (hst.far w.heap.size (by omega))).trans y2,(World.cell?_of_block (a:=⟨w.heap.size,3,none⟩) (hst.far w.heap.size (by omega))).trans y3,(World.cell?_of_block (a:=⟨w.heap.size,4,none⟩) (hst.far w.heap.size (by omega))).trans y4,(World.cell?_of_block (a:=⟨w.heap.size,5,none⟩) (hst.far w.heap.size (by omega))).trans y5,(World.cell?_of_block (a:=⟨w.heap.size,6,none⟩) (hst.far w.heap.size (by omega))).trans y6,(World.cell?_of_block (a:=⟨w.heap.size,7,none⟩) (hst.far w.heap.size (by omega))).trans y7,(World.cell?_of_block (a:=⟨w.heap.size,8,none⟩) (hst.far w.heap.size (by omega))).trans y8,(World.cell?_of_block (a:=⟨w.heap.size,9,none⟩) (hst.far w.heap.size (by omega))).trans y9,(World.cell?_of_block (a:=⟨w.heap.size,10,none⟩) (hst.far w.heap.size (by omega))).trans y10,(World.cell?_of_block (a:=⟨w.heap.size,11,none⟩) (hst.far w.heap.size (by omega))).trans y11,(World.cell?_of_block (a:=⟨w.heap.size,12,none⟩) (hst.far w.heap.size (by omega))).trans y12,(World.cell?_of_block (a:=⟨w.heap.size,13,none⟩) (hst.far w.heap.size (by omega))).trans y13⟩
 clear hK K
 (try simp only [Act.put,sqA,sqB,sqC])
 refine wpAnyH_done (by kernel_rfl) ?_ _
 have z0:wz.cell? ⟨w.heap.size + 1,0,none⟩=some (.int .i64 kd):=hst.cells 0 _ rfl
 have z1:wz.cell? ⟨w.heap.size + 1,1,none⟩=some (.int .i64 po):=hst.cells 1 _ rfl
 have z2:wz.cell? ⟨w.heap.size + 1,2,none⟩=some (.int .i64 tt):=hst.cells 2 _ rfl
 have z3:wz.cell? ⟨w.heap.size + 1,3,none⟩=some (.int .i64 vi):=hst.cells 3 _ rfl
 have z4:wz.cell? ⟨w.heap.size + 1,4,none⟩=some (.int .i64 sx):=hst.cells 4 _ rfl
 have z5:wz.cell? ⟨w.heap.size + 1,5,none⟩=some (.int .i64 kv):=hst.cells 5 _ rfl
 have z6:wz.cell? ⟨w.heap.size + 1,6,none⟩=some (.int .u64 km):=hst.cells 6 _ rfl
 have z7:wz.cell? ⟨w.heap.size + 1,7,none⟩=some (.int .u64 me):=hst.cells 7 _ rfl
 have z8:wz.cell? ⟨w.heap.size + 1,8,none⟩=some (.int .u64 un):=hst.cells 8 _ rfl
 have z9:wz.cell? ⟨w.heap.size + 1,9,none⟩=some (.int .u32 nw):=hst.cells 9 _ rfl
 have z10:wz.cell? ⟨w.heap.size + 1,10,none⟩=some (.int .u32 li):=hst.cells 10 _ rfl
 have z11:wz.cell? ⟨w.heap.size + 1,11,none⟩=some (.int .i64 sh):=hst.cells 11 _ rfl
 have z12:wz.cell? ⟨w.heap.size + 1,12,none⟩=some (.int .i64 bu):=hst.cells 12 _ rfl
 have z13:wz.cell? ⟨w.heap.size + 1,13,none⟩=some (.int .i64 id):=hst.cells 13 _ rfl
 have HBZ:Hid (Below w.heap.size w wz):=(HLOW.out _ hqb).trans (hst.below _ (by omega))
 clear hst hHeld
 go_wp2
 exact bodyPost_ret (v:=opV kd po tt vi sx kv km me un nw li sh bu id) (by simp [results,Try.results11,go_sem,opV,z0,z1,z2,z3,z4,z5,z6,z7,z8,z9,z10,z11,z12,z13]) rfl ⟨rfl,HBZ.out⟩
end Go.Proofs.Ytfekhdgjgjodlaa
