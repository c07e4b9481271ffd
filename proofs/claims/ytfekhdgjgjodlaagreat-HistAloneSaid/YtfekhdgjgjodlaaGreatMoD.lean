/-
  Words and contracts that a statement's proof rests on (BuC, BuF, MoV, MoD). No statement is proved here.
-/
import Derived.Deep.RegionHeld3
import Derived.Test.YtfekhdgjgjodlaaGreatVlanA
import Derived.Test.YtfekhdgjgjodlaaGreatPlainBu
import Derived.Test.YtfekhdgjgjodlaaGreatPtB
set_option linter.unusedVariables false
set_option linter.unusedSimpArgs false
namespace Go.Proofs.YtfekhdgjgjodlaaGreat
section
open Go.RowKit
theorem againE_at (o e:En):againE o e=if o=e ∨ (o.st=true∧e.st=false) then 0 else if e.st=false∧o.port=e.port then 1 else 2:=rfl
set_option maxHeartbeats 3200000 in
theorem bucket_again (a0:Int) (q0:Nat) (p0:Int) (t0:Bool) (s0:Nat) (a1:Int) (q1:Nat) (p1:Int) (t1:Bool) (s1:Nat) (hk:a0=a1∧q0=q1) (w:World) :
  Calls Tryz.prog 142 #[.agg #[.int .i64 a0,.int .u64 (q0:Int),.int .i64 p0,.bool t0,.int .u32 (s0:Int)],.agg #[.int .i64 a1,.int .u64 (q1:Int),.int .i64 p1,.bool t1,.int .u32 (s1:Int)]] w (Says (.int .i64 (againE ⟨a0,q0,p0,t0,s0⟩ ⟨a1,q1,p1,t1,s1⟩:Nat)) w):=by
 have ha:=againE_at ⟨a0,q0,p0,t0,s0⟩ ⟨a1,q1,p1,t1,s1⟩
 obtain ⟨rfl,rfl⟩:=hk
 simp only [En.mk.injEq,true_and] at ha
 generalize againE ⟨a0,q0,p0,t0,s0⟩ ⟨a0,q0,p1,t1,s1⟩=r at *
 have HA:=Lib.hid ha
 clear ha
 by_cases hp:p0=p1
 ·subst hp
  by_cases hs:s0=s1
  ·subst hs
   cases t0 <;> cases t1
   all_goals
    go_enter Tryz.func142,Tryz.ntmps142
    go_wp2
    go_ret
    exact ⟨ret_i64 (by rw [HA.out]; simp),(by (repeat' (first | (with_reducible exact Below.refl _ _) | (with_reducible assumption) | (with_reducible refine Below.setCell ?_ ?_ _) | (with_reducible refine Below.alloc ?_ ?_ _) | (with_reducible refine below_drewN ?_ _) | (with_reducible refine Below.drew ?_) | go_size)))⟩
  ·have hs1:¬ (s0:Int)=(s1:Int):=by omega
   have hs2:((s0:Int) == (s1:Int))=false:=by simp; omega
   cases t0 <;> cases t1
   all_goals
    go_enter Tryz.func142,Tryz.ntmps142
    go_wp2
    go_ret
    exact ⟨ret_i64 (by rw [HA.out]; simp [hs]),(by (repeat' (first | (with_reducible exact Below.refl _ _) | (with_reducible assumption) | (with_reducible refine Below.setCell ?_ ?_ _) | (with_reducible refine Below.alloc ?_ ?_ _) | (with_reducible refine below_drewN ?_ _) | (with_reducible refine Below.drew ?_) | go_size)))⟩
 ·have hp1:(p0 == p1)=false:=by simpa using hp
  cases t0 <;> cases t1
  all_goals
   go_enter Tryz.func142,Tryz.ntmps142
   go_wp2
   go_ret
   exact ⟨ret_i64 (by rw [HA.out]; simp [hp]),(by (repeat' (first | (with_reducible exact Below.refl _ _) | (with_reducible assumption) | (with_reducible refine Below.setCell ?_ ?_ _) | (with_reducible refine Below.alloc ?_ ?_ _) | (with_reducible refine below_drewN ?_ _) | (with_reducible refine Below.drew ?_) | go_size)))⟩
end
section
open Go.RowKit
theorem listP_succ (f:Nat→Pl) (k:Nat):listP f (k + 1)=listP f k ++ [f k]:=by simp [listP,List.range_succ]
theorem plc_one1 (x:Pl):plc [x]=x.cells:=by simp [plc]
theorem RowOf.of_own {w:World} {B n:Nat} {v:Value} {f:Nat→Pl} {T:TypeId} (h:w.ownsRow B T 6 v n (plc (listP f n))):RowOf w T B v n f:=by
 obtain ⟨_,h⟩:=h
 rcases h with ⟨rfl,rfl⟩ | ⟨g,cap,cur,rfl,hg,hh,hnc,hcm,hcs,htake⟩
 ·exact ⟨none,0,rfl,Nat.le_refl _,by simp [maxLen],fun hn => by omega⟩
 ·refine ⟨_,cap,rfl,hnc,hcm,fun hn => ⟨g,fun j => cur.getD j (.bool false),rfl,hg,⟨cur,hh,hcs,fun i hi => by simp [Array.getD_eq_getD_getElem?,Array.getElem?_eq_getElem (show i < cur.size by omega)]⟩,fun j hj => ?_⟩⟩
  have h1:(plc (listP f n))[j]?=some (rowP f j):=by
   have e:j=j / 6 * 6 + j % 6:=by omega
   have hq:j / 6 < n:=by omega
   have hm:j % 6 < 6:=by omega
   have:=plc_at (listP f n) (j / 6) (j % 6) hm
   rw [← e] at this
   rw [this]
   simp only [listP,List.getElem?_map,List.getElem?_range hq,Option.map_some,Option.bind_some]
   unfold rowP
   rw [List.getD_eq_getElem?_getD,List.getElem?_eq_getElem (show j % 6 < (f (j / 6)).cells.length by simpa [Pl.cells] using hm)]
   rfl
  rw [← htake,List.getElem?_take,if_pos hj,Array.getElem?_toList] at h1
  simp [Array.getD_eq_getD_getElem?,h1]
theorem litN6 (w:World) (cs:Array Value) (e:TypeId) (hs:cs.size=6):Sl (w.alloc (.cells cs e)) (w.heap.size + 1) 6 (.slice (some ⟨w.heap.size,0,none⟩) 1 1) 1 cs.toList:=by
 refine ⟨by simpa using hs,_,1,rfl,Nat.le_refl _,by simp [maxLen],fun _ => ⟨w.heap.size,0,rfl,by omega,fun j hj => ?_⟩⟩
 simp [go_sem]
set_option maxHeartbeats 3200000 in
theorem ref10_Copy {f:Nat→Pl} {n:Nat} {y:Value} {w:World} {B:Nat} (hn:n≤1000000) (hv:PlRow w B y n f) (hB:B≤w.heap.size) :
  Calls Tryz.prog 99 #[y] w (Gives 150 n (fun i => ownP (f i)) id w):=by
 obtain ⟨A,cap,rfl,h1,h2,h3⟩:=hv
 have HC:=Lib.hid h3
 have HCAP:=Lib.hid h1
 unfold maxLen at h2
 clear h3
 go_enter Tryz.func99,Tryz.ntmps99
 go_wp2
 go_loopw [3,4] (fun out i wr => ∃ k:Nat,k≤n∧i=.int .i64 k∧Hid (wr.ownsRow w.heap.size 150 6 out k (plc (listP (fun i => ownP (f i)) k)))∧Hid (Below w.heap.size w wr)) (fun _ i _ => n - (intOf i).toNat)
 case atStart => exact ⟨0,by omega,rfl,⟨by simp [plc,listP],.inl ⟨rfl,rfl⟩⟩,Below.refl _ _⟩
 case round =>
  obtain ⟨k,hk,rfl,HO,HB⟩:=hrel
  have hzw:=HB.out.size
  by_cases hlt:k < n
  ·obtain ⟨b,off,rfl,hb,hc⟩:=HC.out (by omega)
   have g0:(0:Int)≤(k:Int):=Int.natCast_nonneg _
   have g1:(k:Int) < (n:Int):=by omega
   have hcx:=(hc k hlt).keep (w':=wr) fun p hp => HB.out.cell (by rw [hp]; omega)
   have HX:Hid (∀ x,ownP (f k)=ownP x→plc (listP (fun i => ownP (f i)) (k + 1))=plc (listP (fun i => ownP (f i)) k) ++ (ownP x).cells):=fun x hx => by
    rw [listP_succ,plc_append,plc_one1,← hx]
   obtain ⟨x,hx⟩:∃ x,x=f k:=⟨_,rfl⟩
   rw [← hx] at hcx HX
   have HX:=Lib.hid (HX.out x rfl)
   clear hx
   obtain ⟨u,⟨a,q,p,st,s⟩⟩:=x
   obtain ⟨c0',c1',c2',c3',c4',c5'⟩:=hcx
   have c0:wr.cell? ⟨b,off + k * 6,none⟩=some (.bool u):=c0'
   have c1:wr.cell? ⟨b,off + k * 6 + 1,none⟩=some (.int .i64 a):=c1'
   have c2:wr.cell? ⟨b,off + k * 6 + 2,none⟩=some (.int .u64 (q:Int)):=c2'
   have c3:wr.cell? ⟨b,off + k * 6 + 3,none⟩=some (.int .i64 p):=c3'
   have c4:wr.cell? ⟨b,off + k * 6 + 4,none⟩=some (.bool st):=c4'
   have c5:wr.cell? ⟨b,off + k * 6 + 5,none⟩=some (.int .u32 (s:Int)):=c5'
   clear c0' c1' c2' c3' c4' c5'
   have hbr:b < wr.heap.size:=by omega
   clear hc HC
   cases u
   ·go_wp2_with (first
     | (at_builtin; refine wpList_apv _ rfl stPlacesR _ _ rfl w.heap.size _ k _ rfl (own_below HO.out ((Below.refl _ _).alloc (Nat.le_refl _) _)) (wr.heap.size + 1) _ 1 [.bool false,.int .i64 0,.int .u64 0,.int .i64 0,.bool false,.int .u32 0] rfl (litN6 wr #[.bool false,.int .i64 0,.int .u64 0,.int .i64 0,.bool false,.int .u32 0] _ rfl) (by simp [Value.oneCell']) (by omega) (by simp; omega) ?_; intro A2 c2 w2 hown2 hgr2 hat2 hbel2; clear hgr2 hat2))
    have HO2:Hid (w2.ownsRow w.heap.size 150 6 (.slice A2 (k + 1) c2) (k + 1) (plc (listP (fun i => ownP (f i)) (k + 1)))):=by
     rw [HX.out]; exact hown2
    have HB2:Hid (Below w.heap.size w w2):=(HB.out.alloc hzw _).trans hbel2
    clear hown2 hbel2
    go_wp2
    go_roundw
    case rel => exact ⟨k + 1,by omega,by go_num,HO2.out,HB2.out⟩
    case measure => simp [intOf]; omega
   ·go_wp2_with (first
     | (at_builtin; refine wpList_apv _ rfl stPlacesR _ _ rfl w.heap.size _ k _ rfl (own_below HO.out ((Below.refl _ _).alloc (Nat.le_refl _) _)) (wr.heap.size + 1) _ 1 [.bool true,.int .i64 a,.int .u64 (q:Int),.int .i64 p,.bool st,.int .u32 (s:Int)] rfl (litN6 wr #[.bool true,.int .i64 a,.int .u64 (q:Int),.int .i64 p,.bool st,.int .u32 (s:Int)] _ rfl) (by simp [Value.oneCell']) (by omega) (by simp; omega) ?_; intro A2 c2 w2 hown2 hgr2 hat2 hbel2; clear hgr2 hat2))
    have HO2:Hid (w2.ownsRow w.heap.size 150 6 (.slice A2 (k + 1) c2) (k + 1) (plc (listP (fun i => ownP (f i)) (k + 1)))):=by
     rw [HX.out]; exact hown2
    have HB2:Hid (Below w.heap.size w w2):=(HB.out.alloc hzw _).trans hbel2
    clear hown2 hbel2
    go_wp2
    go_roundw
    case rel => exact ⟨k + 1,by omega,by go_num,HO2.out,HB2.out⟩
    case measure => simp [intOf]; omega
  ·have:k=n:=by omega
   subst this
   go_wp2
   go_ret
   exact ⟨_,rfl,RowOf.of_own HO.out,HB.out⟩
end
section
open Go.RowKit
theorem Sl.litN (w:World) (cs:Array Value) (e:TypeId) (n size:Nat) (hs:cs.size=n * size) (hm:n≤maxLen):Sl (w.alloc (.cells cs e)) (w.heap.size + 1) size (.slice (some ⟨w.heap.size,0,none⟩) n n) n cs.toList:=by
 refine ⟨by simpa using hs,_,n,rfl,Nat.le_refl _,hm,fun _ => ⟨w.heap.size,0,rfl,by omega,fun j hj => ?_⟩⟩
 simp [go_sem]
theorem keep3 {w w':World} {b o1 o2 o3:Nat} {v1 v2 v3:Value} (h:w.cell? ⟨b,o1,none⟩=some v1∧w.cell? ⟨b,o2,none⟩=some v2∧w.cell? ⟨b,o3,none⟩=some v3) (hk:∀ p:Addr,p.block=b→w'.cell? p=w.cell? p) :
  w'.cell? ⟨b,o1,none⟩=some v1∧w'.cell? ⟨b,o2,none⟩=some v2∧w'.cell? ⟨b,o3,none⟩=some v3 :=
 ⟨(hk _ rfl).trans h.1,(hk _ rfl).trans h.2.1,(hk _ rfl).trans h.2.2⟩
theorem stVlans:ST Tryz.prog 38 135 (.agg #[.int .i64 0,.int .u64 0,.int .u64 0]) 3 24:=ST.mk Tryz.underlying38 (by kernel_rfl) rfl (by omega) (by omega)
theorem stVls3:ST Tryz.prog 23 88 (.agg #[.int .i64 0,.int .u64 0,.int .u64 0]) 3 24:=ST.mk Tryz.underlying23 (by kernel_rfl) rfl (by omega) (by omega)
set_option maxHeartbeats 1600000 in
theorem law3_To {l:List Vl} {n:Nat} {v:Value} {w:World} {B:Nat} (hn:n≤20) (hv:Sl w B 3 v n (vlc l)) (hB:B≤w.heap.size) :
  Calls Tryz.prog 30 #[v] w fun e w' => ∃ u,e=.returned u∧w'.ownsRow w.heap.size 135 3 u n (vlc l)∧Below w.heap.size w w':=by
 by_cases hn0:0 < n
 ·obtain ⟨b,off,cap,rfl,hcap,hmx,hb,hlen,hcell⟩:=hv.vlAt hn0
  unfold maxLen at hmx
  have HC:=Lib.hid hcell
  have HL:=Lib.hid hlen
  clear hv hcell hlen
  go_enter Tryz.func30,Tryz.ntmps30
  go_wp2
  go_loopw [3,4] (fun o i wr => ∃ k:Nat,k≤n∧i=.int .i64 k∧Hid (wr.ownsRow w.heap.size 135 3 o k (vlc (l.take k)))∧Hid (Below w.heap.size w wr)) (fun _ i _ => n - (intOf i).toNat)
  case atStart => exact ⟨0,by omega,rfl,⟨by simp [vlc],.inl ⟨rfl,rfl⟩⟩,Below.refl _ _⟩
  case round =>
   rename_i o _ _
   obtain ⟨k,hk,rfl,HO,HBW⟩:=hrel
   rename_i wr _
   by_cases hlt:k < n
   ·obtain ⟨c0,c1,c2⟩:=HC.out k hlt
    have hbw:=(bcell HBW.out).1
    have e0:=(hbw b (off + k * 3) (by omega)).trans c0
    have e1:=(hbw b (off + k * 3 + 1) (by omega)).trans c1
    have e2:=(hbw b (off + k * 3 + 2) (by omega)).trans c2
    obtain ⟨x,hx⟩:∃ x,x=l.getD k vl0:=⟨_,rfl⟩
    rw [← hx] at e0 e1 e2
    have HX:Hid (vlc (l.take k) ++ [.int .i64 x.vid,.int .u64 (x.mem:Nat),.int .u64 (x.unt:Nat)]=vlc (l.take (k + 1))):=by
     have hkl:k < l.length:=by have:=HL.out; omega
     show _=_
     rw [List.take_succ_eq_append_getElem hkl,vlc_append,hx]
     simp [vlc,Vl.cells,List.getD_eq_getElem?_getD,List.getElem?_eq_getElem hkl]
    have g0:(0:Int)≤(k:Int):=Int.natCast_nonneg _
    have g1:(k:Int) < (n:Int):=by omega
    have hzw:=HBW.out.size
    clear hbw c0 c1 c2 hx HC
    go_wp2
    have hbr:b < wr.heap.size:=by omega
    have hbw:b < w.heap.size:=by omega
    go_region_held3 (fun w' => w'.cell? ⟨b,off + k * 3,none⟩=some (.int .i64 x.vid)∧w'.cell? ⟨b,off + k * 3 + 1,none⟩=some (.int .u64 (x.mem:Nat))∧w'.cell? ⟨b,off + k * 3 + 2,none⟩=some (.int .u64 (x.unt:Nat)))
     (first | (with_reducible exact keep3 (by assumption) (fun p hp => hbel2.cell (by rw [hp]; exact hbw))) | (with_reducible exact keep3 (by assumption) (fun p hp => World.cell?_alloc_lt _ _ _ (by rw [hp]; exact hbr))) | go_keep)
     ((refine step_app _ (by rfl) stVlans _ _ (by rfl) w.heap.size u3 k _ (by rfl) ((HO.out.alloc _).drew) (wr.heap.size + 1) _ 1 [.int .i64 x.vid,.int .u64 (x.mem:Nat),.int .u64 (x.unt:Nat)] (by rfl) ((Sl.litN wr #[.int .i64 x.vid,.int .u64 (x.mem:Nat),.int .u64 (x.unt:Nat)] _ 1 3 rfl (by decide)).drew) (by simp [Value.oneCell']) (by omega) (by simp; omega) ?_; intro v2 w2 hown2 hgr2 hat2 hbel2))
    all_goals
     rw [HX.out] at hown2
     have HO2:=Lib.hid hown2
     have HB2:=Lib.hid ((HBW.out.alloc hzw (.cells #[.int .i64 x.vid,.int .u64 (x.mem:Nat),.int .u64 (x.unt:Nat)] 135)).drew.trans hbel2)
     clear hown2 hgr2 hat2 hbel2
     go_wp2
     go_roundw
     case rel => exact ⟨k + 1,by omega,by go_num,HO2.out,HB2.out⟩
     case measure => simp [intOf]; omega
   ·have:k=n:=by omega
    subst this
    go_wp2
    go_ret
    refine ⟨_,rfl,?_,HBW.out⟩
    have:=HO.out
    rw [List.take_of_length_le (by have:=HL.out; omega)] at this
    exact this
 ·obtain rfl:n=0:=by omega
  have hl:l=[]:=List.eq_nil_of_length_eq_zero hv.vlLen
  subst hl
  obtain ⟨A,cap,rfl,hcap,hmx⟩:=hv.form
  clear hv hn0
  go_enter Tryz.func30,Tryz.ntmps30
  go_wp2
  go_loopw [3,4] (fun o i wr => i=.int .i64 0∧o=.slice none 0 0∧wr=w) (fun _ _ _ => 0)
  case atStart => exact ⟨rfl,rfl,rfl⟩
  case round =>
   obtain ⟨rfl,rfl,rfl⟩:=hrel
   go_wp2
   go_ret
   exact ⟨_,rfl,World.ownsRow_nil _ _ _ _,Below.refl _ _⟩
end
section
open Go.RowKit
set_option maxRecDepth 20000 in
set_option maxHeartbeats 3200000 in
theorem clone_vlans {w:World} {B n:Nat} {v:Value} {xs:List Value} (hn:n≤1000000) (hv:Sl w B 3 v n xs) (hone:∀ u ∈ xs,u.oneCell'=true) (hB:B≤w.heap.size) :
  Calls Tryz.prog 78 #[v] w fun e w' => ∃ u,e=.returned u∧w'.ownsRow w.heap.size 135 3 u n xs∧Below w.heap.size w w':=by
 have HS:=Lib.hid hv
 obtain ⟨A,cap,rfl,h1,h2⟩:=hv.form
 have HONE:=Lib.hid hone
 cases A with
 | none =>
  have hn0:n=0:=by
   rcases Nat.eq_zero_or_pos n with h | h
   ·exact h
   ·obtain ⟨b,off,c,e,_⟩:=hv.at_ h
    cases e
  subst hn0
  have hx:xs=[]:=by have:=hv.len; simpa using this
  subst hx
  clear hv h1 h2 HS HONE hone
  have hnil:=fun (W:World) => Lib.run_eql_slice_nil (P:=Tryz.prog) W 38 135 none 0 cap 0 0 Tryz.underlying38
  go_enter Tryz.func78,Tryz.ntmps78
  go_wp2_with fail
  go_ret
  exact ⟨_,rfl,⟨by simp,.inl (by simp)⟩,Below.refl _ _⟩
 | some a =>
  clear hv h2 hone
  have hnil:=fun (W:World) => Lib.run_eql_slice_nil (P:=Tryz.prog) W 38 135 (some a) n cap 0 0 Tryz.underlying38
  go_enter Tryz.func78,Tryz.ntmps78
  go_wp2_with (first
   | (at_builtin; refine wpList_apv _ rfl stVlans _ _ rfl w.heap.size (.slice (some ⟨w.heap.size,0,none⟩) 0 0) 0 [] rfl ⟨by simp,.inr ⟨w.heap.size,0,#[],rfl,Nat.le_refl _,heap_alloc_new w _,Nat.le_refl _,by simp [maxLen],by simp,by simp⟩⟩ B _ n xs rfl (HS.out.below (by (repeat' (first | (with_reducible exact Below.refl _ _) | (with_reducible refine Below.alloc ?_ ?_ _) | go_size)))) HONE.out (by omega) (by go_size) ?_; intro A2 c2 w9 hown2 hgr2 hat2 hbel2; clear hgr2 hat2))
  have HO0:w9.ownsRow w.heap.size 135 3 (.slice A2 n c2) n xs:=by simpa using hown2
  have HO:=Lib.hid HO0
  clear HO0
  have HB9:Hid (Below w.heap.size w w9):=Below.trans ((Below.refl _ _).alloc (Nat.le_refl _) _) hbel2
  clear hown2 hbel2
  go_wp2
  go_ret
  exact ⟨_,by first | rfl | (simp; done),HO.out,HB9.out⟩
end
end Go.Proofs.YtfekhdgjgjodlaaGreat
