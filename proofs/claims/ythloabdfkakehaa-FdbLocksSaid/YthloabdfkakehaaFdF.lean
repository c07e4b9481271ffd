/-
  Words and contracts that a statement's proof rests on (FdF, FdY). No statement is proved here.
-/
import Derived.Test.YthloabdfkakehaaFdD
import Derived.Test.YthloabdfkakehaaFdE
import Derived.Test.YthloabdfkakehaaFdX
set_option linter.unusedVariables false
set_option linter.unusedSimpArgs false
namespace Go.Proofs.Ythloabdfkakehaa
section
open Go.RowKit
section
variable {w:World} {lo b fb L ab:Nat} {E:Nat→Prop} {F:FcS} {m:MemS} {a:FaS} {fv lv wv:Value}
theorem own_types {w:World} {B B' s s' n n':Nat} {e e':TypeId} {v v':Value} {xs xs':List Value} (h:w.ownsRow B e s v n xs) (h':w.ownsRow B' e' s' v' n' xs') (hne:e ≠ e') {k:Nat} (h1:v.ownBlock=some k) (h2:v'.ownBlock=some k):False:=by
 rcases h.2 with hn | ⟨g,cap,cur,hv,_,hg,_⟩
 ·rw [hn.1] at h1; cases h1
 ·rcases h'.2 with hn | ⟨g',cap',cur',hv',_,hg',_⟩
  ·rw [hn.1] at h2; cases h2
  ·rw [hv] at h1
   rw [hv'] at h2
   injection h1 with h1
   injection h2 with h2
   simp only at h1 h2
   rw [h1] at hg
   rw [h2] at hg'
   rw [hg] at hg'
   injection hg' with h9
   injection h9 with _ h8
   exact hne h8
theorem kv_snoc (l:List Int) (V:Int):kv .u64 (l ++ [V])=kv .u64 l ++ [.int .u64 V]:=by simp [kv]
theorem fd_app {W w2:World} {v2:Value} {V:Int} (hf:FdbAt W lo b fb F m) (ha:FactIn W L E fb ab F a fv lv wv) (htc:Tch (FdD lo E) w W) (h1:lo + 3≤L) (h2:fb < L) (hLw:L≤w.heap.size)
  (hown:w2.ownsRow L 44 1 v2 (a.ld.length + 1) (kv .u64 a.ld ++ [.int .u64 V])) (hgr:W.grownBy w2 lv.ownBlock) (hat:v2.ownBlock=lv.ownBlock ∨ v2.ownBlock=some W.heap.size) :
  (FdbAt w2 lo b fb F m∧w2.rowIs ab 93 16 (factF fb F a fv lv wv)) ∧
  FdbAt (w2.setCell ⟨ab,9,none⟩ v2) lo b fb F m∧FactIn (w2.setCell ⟨ab,9,none⟩ v2) L (growE E w (w2.setCell ⟨ab,9,none⟩ v2)) fb ab F { a with ld:=a.ld ++ [V] } fv v2 wv∧Tch (FdD lo E) w (w2.setCell ⟨ab,9,none⟩ v2):=by
 have ht1:Tch (fun k => lv.ownBlock=some k) W w2:=⟨hgr.os,hgr.tape,hgr.output,hgr.size,fun k hk hn => hgr.block k hk fun e => hn e.symm⟩
 have hab:L≤ab:=(ha.low _ ha.own).1
 have hrow:w2.rowIs ab 93 16 (factF fb F a fv lv wv):=rowIs_tch ha.row ht1 fun e => by have:=(ha.ldE _ e).2; omega
 have hf2:FdbAt w2 lo b fb F m:=hf.tch ht1 (fun k h3 h4 e => by have:=(ha.low _ (ha.ldE _ e).1).1; omega) (fun e => by have:=(ha.low _ (ha.ldE _ e).1).1; omega)
 have hfs:FdbAt (w2.setCell ⟨ab,9,none⟩ v2) lo b fb F m:=hf2.fset (by omega) (by omega) 9 v2
 have hts:Tch (fun k => k=ab) w2 (w2.setCell ⟨ab,9,none⟩ v2):=Tch.setCell (D:=fun k => k=ab) (Tch.refl _ w2) (p:=⟨ab,9,none⟩) rfl v2
 have hzW:=htc.size
 have hz2:=hgr.size
 have hblt:ab < W.heap.size:=ha.lt
 have hvE:∀ k,v2.ownBlock=some k→growE E w w2 k∧ab < k:=fun k hk => by
  rcases hat with h9 | h9
  ·rw [h9] at hk
   exact ⟨.inl (ha.ldE k hk).1,(ha.ldE k hk).2⟩
  ·have h8:=hown.lt k hk
   rw [hk] at h9
   injection h9 with h9
   subst h9
   exact ⟨.inr ⟨by omega,h8.2⟩,hblt⟩
 have hlow:∀ k,growE E w w2 k→L≤k∧k < w2.heap.size:=fun k hk => by
  rcases hk with h9 | h9
  ·have:=ha.low k h9; omega
  ·omega
 have hE2:growE E w (w2.setCell ⟨ab,9,none⟩ v2)=growE E w w2:=by
  funext k
  unfold growE
  simp [World.setCell]
 refine ⟨⟨hf2,hrow⟩,hfs,?_,?_⟩
 ·rw [hE2]
  exact {
   row:=(hrow.set 9 v2).congr fun i hi => by
    match i,hi with
    | 0,_ => rfl
    | 1,_ => rfl
    | 2,_ => rfl
    | 3,_ => rfl
    | 4,_ => rfl
    | 5,_ => rfl
    | 6,_ => rfl
    | 7,_ => rfl
    | 8,_ => rfl
    | 9,_ => rfl
    | 10,_ => rfl
    | 11,_ => rfl
    | 12,_ => rfl
    | 13,_ => rfl
    | 14,_ => rfl
    | 15,_ => rfl
    | _ + 16,hh => exact absurd hh (by omega)
   own:=.inl ha.own
   wk:=(ha.wk.keep (w':=w2) (E':=fun k => E k∧k < ab) (fun _ h => h) fun k hk => ht1.block k (ha.low k hk.1).2 fun e => by have:=(ha.ldE k e).2; omega).keep (fun k hk => ⟨.inl hk.1,hk.2⟩) fun k hk => hts.block k (by have:=(ha.low k hk.1).2; omega) (by omega)
   ld:=by
    have h9:=own_tch hown hts fun k hk e => by have:=(hvE k hk).2; omega
    rw [← kv_snoc] at h9
    have e:(a.ld ++ [V]).length=a.ld.length + 1:=by simp
    show World.ownsRow _ _ _ _ _ (a.ld ++ [V]).length (kv .u64 (a.ld ++ [V]))
    rw [e]
    exact h9
   wr:=own_tch (own_tch ha.wr ht1 fun k hk e => own_types ha.ld ha.wr (by decide) e hk) hts fun k hk e => by have:=(ha.wrE k hk).2; omega
   ldE:=hvE
   wrE:=fun k hk => ⟨.inl (ha.wrE k hk).1,(ha.wrE k hk).2⟩
   low:=fun k hk => by have:=hlow k hk; simpa using this
   tb:=ha.tb
   an:=ha.an }
 ·refine (htc.trans (ht1.mono fun k hk e => .inr (ha.ldE k e).1)).trans (hts.mono fun k hk e => .inr ?_)
  rw [e]; exact ha.own
theorem fd_more {W W':World} (h:FdbAt W lo b fb F m∧FactIn W L E fb ab F a fv lv wv∧Tch (FdD lo E) w W) (hb:Below W.heap.size W W'):FdbAt W' lo b fb F m∧FactIn W' L E fb ab F a fv lv wv∧Tch (FdD lo E) w W' :=
 ⟨h.1.below hb,h.2.1.below hb,h.2.2.trans (Tch.of_below hb)⟩
theorem fd_step {W W':World} {m':MemS} (h:FdbAt W lo b fb F m∧FactIn W L E fb ab F a fv lv wv∧Tch (FdD lo E) w W) (h1:lo + 3≤L) (hm:MemAt W' 82 lo b m') (ht:Touch lo W W') (hC:m'.C=m.C) (hL:m'.L=m.L):FdbAt W' lo b fb F m'∧FactIn W' L E fb ab F a fv lv wv∧Tch (FdD lo E) w W' :=
 ⟨h.1.memory hm ht hC hL,h.2.1.touch ht h1,h.2.2.ftouch ht⟩
end
end
section
open Go.RowKit
section
variable {w:World} {lo b fb L:Nat} {E:Nat→Prop} {F:FcS} {m:MemS}
def newA (who:Int) (k:Wk) (l0 lc h0 hc st:Nat):FaS:={ who:=who,wk:=k,l0:=l0,lc:=lc,h0:=h0,hc:=hc,st:=st,held:=0,ld:=[],wr:=[],od:=0,wt:=0,mark:=0,ans:=0,vain:=0 }
theorem newA_at {W:World} {k:Wk} {fv:Value} {who:Int} {T C h0:Nat} (hB:Below w.heap.size w W) (hk:WkAt w E k fv) (hE:∀ k,E k→L≤k∧k < w.heap.size) (hL:L≤w.heap.size) (hC:C=F.cell h0) :
  FactAt (W.alloc (.cells #[.pointer (some ⟨fb,0,none⟩),.int .i64 who,fv,.int .i64 (T:Nat),.int .i64 1,.int .i64 (C:Nat),.int .i64 (F.W:Nat),.int .i64 2,.int .i64 0,.slice none 0 0,.slice none 0 0,.int .i64 0,.int .i64 0,.int .i64 0,.int .i64 0,.int .i64 0] 93)) L (fun k => E k ∨ (w.heap.size≤k∧k < (W.alloc (.cells #[.pointer (some ⟨fb,0,none⟩),.int .i64 who,fv,.int .i64 (T:Nat),.int .i64 1,.int .i64 (C:Nat),.int .i64 (F.W:Nat),.int .i64 2,.int .i64 0,.slice none 0 0,.slice none 0 0,.int .i64 0,.int .i64 0,.int .i64 0,.int .i64 0,.int .i64 0] 93)).heap.size)) fb W.heap.size F (newA who k T 1 h0 1 2):=by
 subst hC
 refine ⟨fv,.slice none 0 0,.slice none 0 0,?_⟩
 have hrow:=World.rowIs_alloc W #[.pointer (some ⟨fb,0,none⟩),.int .i64 who,fv,.int .i64 (T:Nat),.int .i64 1,.int .i64 (F.cell h0:Nat),.int .i64 (F.W:Nat),.int .i64 2,.int .i64 0,.slice none 0 0,.slice none 0 0,.int .i64 0,.int .i64 0,.int .i64 0,.int .i64 0,.int .i64 0] 93 (factF fb F (newA who k T 1 h0 1 2) fv (.slice none 0 0) (.slice none 0 0)) (fun i hi => by
  match i,hi with
  | 0,_ => rfl
  | 1,_ => rfl
  | 2,_ => rfl
  | 3,_ => rfl
  | 4,_ => rfl
  | 5,_ => rfl
  | 6,_ => show some (Value.int .i64 (F.W:Nat))=some (Value.int .i64 ((1 * F.W:Nat):Int)); rw [Nat.one_mul]
  | 7,_ => rfl
  | 8,_ => rfl
  | 9,_ => rfl
  | 10,_ => rfl
  | 11,_ => rfl
  | 12,_ => rfl
  | 13,_ => rfl
  | 14,_ => rfl
  | 15,_ => rfl
  | _ + 16,hh => exact absurd hh (by simp))
 generalize hO:Obj.cells _ _=O at hrow ⊢
 have hb2:=hB.alloc hB.size O
 have hz:(W.alloc O).heap.size=W.heap.size + 1:=by simp
 exact {
  row:=hrow
  own:=.inr ⟨hB.size,by omega⟩
  wk:=hk.keep (fun j hj => ⟨.inl hj,Nat.lt_of_lt_of_le (hE j hj).2 hB.size⟩) fun j hj => hb2.block j (hE j hj).2
  ld:=⟨rfl,.inl ⟨rfl,rfl⟩⟩
  wr:=⟨rfl,.inl ⟨rfl,rfl⟩⟩
  ldE:=fun j h => by cases h
  wrE:=fun j h => by cases h
  low:=fun j hj => by
   rcases hj with hj | hj
   ·have:=hE j hj; have:=hB.size; omega
   ·omega
  tb:=⟨Int.le_refl 0,show (0:Int)≤4611686018427387904 by decide⟩
  an:=⟨show (-1048576:Int)≤0 by decide,show (0:Int)≤1048576 by decide⟩ }
def Began (lo b fb L:Nat) (E:Nat→Prop) (F:FcS) (m:MemS) (a:FaS) (w:World) (e:Ending) (w':World):Prop :=
 ∃ ab,e=.returned (.pointer (some ⟨ab,0,none⟩))∧w.heap.size≤ab∧Below w.heap.size w w'∧FactAt w' L (fun k => E k ∨ (w.heap.size≤k∧k < w'.heap.size)) fb ab F a
set_option maxRecDepth 20000 in
set_option maxHeartbeats 1600000 in
theorem fdb_oneY (hf:FdbAt w lo b fb F m) (who:Int) (hw:0≤who) (s n:Nat) (hs:s < F.S) (hn:n < F.B) {k:Wk} {fn:Fn} {caps:Array Value} (hk:WkAt w E k (.func fn #[] caps)) (hE:∀ k,E k→L≤k∧k < w.heap.size) (hLw:L≤w.heap.size) :
  Calls Try.prog 68 #[.pointer (some ⟨fb,0,none⟩),.int .i64 who,.int .i64 (s:Nat),.int .i64 (n:Nat),.func fn #[] caps] w (Began lo b fb L E F m (newA who k (F.lk + s) 1 (s * F.B + n) 1 2) w):=by
 have hz:hasF F s n=true:=by unfold hasF; simp [hs,hn]
 have HH:=Lib.hid (fdb_has hf s n)
 rw [hz] at HH
 have d1:decide (who < 0)=false:=decide_eq_false (by omega)
 have HCE:=Lib.hid fun W (hb:Below w.heap.size w W) => fdb_cell (hf.below hb) s n hs hn
 have HWD:=Lib.hid fun W => fdb_wide F.S F.B F.n (by have:=hf.fits.n; omega) W
 have hW9:((1 + 2 * F.n:Nat):Int)=(F.W:Int):=rfl
 have HKP:=Lib.hid fun (W W':World) (hB:Below w.heap.size w W) (q:Nat) (hb:Below (W.drewN q).heap.size (W.drewN q) W') => show Below w.heap.size w W' from (below_drewN hB q).trans (hb.mono hB.size)
 have HSS:=Lib.hid fun (W:World) (hB:Below w.heap.size w W) => show W.cell? ⟨fb,1,none⟩=some (.int .i64 (F.ba:Nat))∧W.cell? ⟨fb,2,none⟩=some (.int .i64 (F.lk:Nat))∧W.cell? ⟨fb,3,none⟩=some (.int .i64 (F.S:Nat))∧W.cell? ⟨fb,4,none⟩=some (.int .i64 (F.B:Nat))∧W.cell? ⟨fb,5,none⟩=some (.int .i64 (F.n:Nat)) from
  ⟨(hf.below hB).at_.2.1,(hf.below hB).at_.2.2.1,(hf.below hB).at_.2.2.2.1,(hf.below hB).at_.2.2.2.2.1,(hf.below hB).at_.2.2.2.2.2.1⟩
 obtain ⟨C,hC⟩:∃ C,C=F.cell (s * F.B + n):=⟨_,rfl⟩
 rw [← hC] at HCE
 obtain ⟨T,hT⟩:∃ T,T=F.lk + s:=⟨_,rfl⟩
 have hl:=hf.fits.l
 have hL:=hf.fits.L
 have hC9:=hf.fits.C
 obtain ⟨x1,x2⟩:=wrap_addF (k:=F.lk) (l:=s) (by omega) (by omega)
 rw [← hT] at x1 x2
 have HCC:=Lib.hid hC
 have HTT:=Lib.hid hT
 have HK:=Lib.hid hk
 have HE:=Lib.hid hE
 have HL:=Lib.hid hLw
 clear hf hz hl hL hC9 hC hT hk hE hLw
 go_enter Try.func68,Try.ntmps68
 go_wp2_with (first
  | go_big_skip
  | (go_at_call 52; (with_reducible refine Calls.mono (HH.out) ?_); rintro e w1 ⟨rfl,hb1⟩; have HB1:=Lib.hid hb1; clear hb1)
  | fail)
 have r9:=HSS.out w1 HB1.out
 go_region_held3 (fun w' => w'.cell? ⟨fb,1,none⟩=some (.int .i64 (F.ba:Nat))∧w'.cell? ⟨fb,2,none⟩=some (.int .i64 (F.lk:Nat))∧w'.cell? ⟨fb,3,none⟩=some (.int .i64 (F.S:Nat))∧w'.cell? ⟨fb,4,none⟩=some (.int .i64 (F.B:Nat))∧w'.cell? ⟨fb,5,none⟩=some (.int .i64 (F.n:Nat))) (first | exact HSS.out _ HB2.out | exact HSS.out _ HB3.out | exact r9 | go_keep) (first
  | (go_at_call 54; (with_reducible refine Calls.mono (HCE.out _ (Below.drew HB1.out)) ?_); rintro e w2 ⟨rfl,hb2⟩; have HB2:=Lib.hid (Below.trans (Below.drew HB1.out) (hb2.mono HB1.out.size)); clear hb2)
  | (go_at_call 48; (with_reducible refine Calls.mono (HWD.out _) ?_); rintro e w3 ⟨rfl,hb3⟩; rw [hW9]; have HB3:=Lib.hid (Below.trans HB2.out (hb3.mono HB2.out.size)); clear hb3))
 have HB4:=Lib.hid (HB3.out)
 go_wp2
 go_ret
 refine ⟨w3.heap.size,by first | rfl | (simp; done),HB3.out.size,HB3.out.alloc HB3.out.size _,?_⟩
 rw [← HTT.out]
 exact newA_at HB3.out HK.out HE.out HL.out HCC.out
end
end
end Go.Proofs.Ythloabdfkakehaa
