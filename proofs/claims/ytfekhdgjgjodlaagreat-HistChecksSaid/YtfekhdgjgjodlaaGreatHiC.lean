/-
  Words and contracts that a statement's proof rests on (HiC, MrH). No statement is proved here.
-/
import Derived.Test.YtfekhdgjgjodlaaGreatOpenVl
import Derived.Test.YtfekhdgjgjodlaaGreatHiA
import Derived.Test.YtfekhdgjgjodlaaGreatSrF
import Derived.Test.YtfekhdgjgjodlaaGreatMoT
import Derived.Test.YtfekhdgjgjodlaaGreatMrG
set_option linter.unusedVariables false
set_option linter.unusedSimpArgs false
namespace Go.Proofs.YtfekhdgjgjodlaaGreat
section
open Go.RowKit
theorem zco (w:World) (T:TypeId):(w.alloc (.cells #[.int .i64 0,.int .i64 0,.int .i64 0,.int .i64 0,.int .i64 0,.int .i64 0,.int .i64 0,.int .i64 0,.int .i64 0,.int .i64 0,.int .u64 0,.int .u64 0,.int .u64 0,.int .u32 0,.int .u32 0,.int .i64 0,.int .i64 0,.int .i64 0,.int .i64 0] T)).there w.heap.size 0 19:=zb6 (cs:=#[.int .i64 0,.int .i64 0,.int .i64 0,.int .i64 0,.int .i64 0,.int .i64 0,.int .i64 0,.int .i64 0,.int .i64 0,.int .i64 0,.int .u64 0,.int .u64 0,.int .u64 0,.int .u32 0,.int .u32 0,.int .i64 0,.int .i64 0,.int .i64 0,.int .i64 0]) (zbd _ _ _)
theorem zqn:ST Tryz.prog 47 3 (.int .i64 0) 1 8:=ST.mk Tryz.underlying47 (by kernel_rfl) rfl (by omega) (by omega)
def natV (o:List Nat):List Value:=o.map fun (i:Nat)=>.int .i64 (i:Int)
theorem zjw (o:List Nat):(natV o).length=o.length:=by simp [natV]
theorem zh8 {o:List Nat} {i:Nat} (h:i<o.length):(natV o)[i]?=some (.int .i64 (getN o i:Nat)):=by
 unfold natV;rw [List.getElem?_map,zft h]
 rfl
theorem zj9 (a b:List Nat):natV (a ++ b)=natV a ++ natV b:=by simp [natV]
theorem natV_one (i:Nat):natV [i]=[.int .i64 (i:Int)]:=rfl
def ze6 (N:Nat) (key:Nat->Int) (w:World) (e:Ending) (w':World):Prop :=
 ∃ A cap o,e=.returned (.slice A o.length cap)/\OrdL N key o/\Sl w' w'.heap.size 1 (.slice A o.length cap) o.length (natV o)/\Below w.heap.size w w'/\∀ b off,A=some ⟨b,off,none⟩->0<o.length->w.heap.size<=b
section
set_option maxRecDepth 20000 in
set_option maxHeartbeats 1600000 in
theorem zot (A:Option Addr) (c:Nat) (f:Value) (w:World):Calls Tryz.prog 96 #[.slice A 0 c,.int .i64 0,.int .i64 0,f] w fun e w'=>e=.returned (.tuple #[])/\w=w':=by
 go_enter Tryz.func96,Tryz.ntmps96
 go_wp2
 go_loopw [8] (fun i wr=>i=.int .i64 1/\w=wr) (fun _ _=>0)
 case atStart=>exact ⟨rfl,rfl⟩
 case round =>
  obtain ⟨rfl,rfl⟩:=hrel
  go_wp2
  first|go_end0|go_ret
  exact ⟨rfl,rfl⟩
set_option maxRecDepth 20000 in
set_option maxHeartbeats 1600000 in
theorem zk1 (A:Option Addr) (c:Nat) (f:Value) (w:World):Calls Tryz.prog 62 #[.slice A 0 c,.int .i64 0,f] w fun e w'=>e=.returned (.tuple #[])/\w=w':=by
 have HI:=Lib.hid fun W=>zot A c f W
 go_enter Tryz.func62,Tryz.ntmps62
 go_wp2
 go_loopw [7,8] (fun a b wr=>a=.int .i64 0/\b=.int .i64 20/\w=wr) (fun _ _ _=>0)
 case atStart=>exact ⟨rfl,rfl,rfl⟩
 case round =>
  obtain ⟨rfl,rfl,rfl⟩:=hrel
  go_wp2_with first
   |((with_reducible refine Calls.mono (HI.out _) ?_);rintro _ w1 ⟨rfl,rfl⟩)
   |fail
  go_loopw [6,7,8,9] (fun Bv av bv mv wr=>Bv=.int .i64 20/\w=wr) (fun Bv av bv mv _=>0)
  case atStart=>exact ⟨rfl,rfl⟩
  case round =>
   obtain ⟨rfl,rfl⟩:=hrel
   go_wp2
   first|go_end0|go_ret
   exact ⟨rfl,rfl⟩
set_option maxRecDepth 20000 in
set_option maxHeartbeats 1600000 in
theorem zn8 (A:Option Addr) (c:Nat) (f:Value) (w:World):Calls Tryz.prog 34 #[.slice A 0 c,f] w fun e w'=>e=.returned (.tuple #[])/\w=w':=by
 have HI:=Lib.hid fun W=>zk1 A c f W
 go_enter Tryz.func34,Tryz.ntmps34
 go_wp2_with first
  |((with_reducible refine Calls.mono (HI.out _) ?_);rintro _ w1 ⟨rfl,rfl⟩)
  |fail
 first|go_end0|go_ret
 exact ⟨rfl,rfl⟩
end
theorem ord_post {w w':World} {pb c lb N:Nat} {key:Nat->Int} {f:Nat->Nat} (hm:MgK key (getN (pls key N)) f 0 (pls key N).length) (hs:SrAt w' pb (pls key N).length lb N key f) (hb:Below w.heap.size w w') (hpb:w.heap.size<=pb) (hc:(pls key N).length<=c) (hx:c<=maxLen) :
  ze6 N key w (.returned (.slice (some ⟨pb,0,none⟩) (pls key N).length c)) w':=by
 refine ⟨some ⟨pb,0,none⟩,c,(List.range (pls key N).length).map f,by simp,OrdL.of_sorted hm,?_,hb,fun b off e _=>by injection e with e;injection e with e;omega⟩
 have hl:((List.range (pls key N).length).map f).length=(pls key N).length:=by simp
 rw [hl]
 refine ⟨by rw [zjw,hl];omega,_,c,rfl,hc,hx,fun hn=>⟨pb,0,rfl,hs.lt,fun j hj=>?_⟩⟩
 rw [Nat.zero_add,hs.row.cell (by omega),zh8 (by omega),getN_map f (by omega)]
theorem zo3 {w w':World} {N:Nat} {key:Nat->Int} {A:Option Addr} {c:Nat} (hz:(pls key N).length=0) (hb:Below w.heap.size w w') (hx:c<=maxLen):ze6 N key w (.returned (.slice A 0 c)) w':=by
 have he:pls key N=[]:=List.eq_nil_of_length_eq_zero hz
 refine ⟨A,c,[],rfl,⟨List.Pairwise.nil,fun i=>?_⟩,⟨by simp [natV],A,c,rfl,Nat.zero_le _,hx,fun h=>absurd h (by simp)⟩,hb,fun b off _ h=>absurd h (by simp)⟩
 rw [<- zdb,he]
section
variable {w:World} {N B:Nat} {v:Value} {L:Nat->Ent}
set_option maxRecDepth 20000 in
set_option maxHeartbeats 6400000 in
theorem ze4 (hn:N<=1000000) (h:zbj w B N v L) (hB:B<=w.heap.size) :
  Calls Tryz.prog 14 #[v] w (ze6 N (fun i=>(L i).mar) w):=by
 obtain ⟨A,cap,rfl,h1,h2,h3⟩:=h
 obtain ⟨key,hkey⟩:∃ key,key=fun i=>(L i).mar:=⟨_,rfl⟩
 rw [<- hkey]
 have HK:Hid (∀ i,key i=(L i).mar):=fun i=>by rw [hkey]
 have HC:=Lib.hid h3;have HN:=Lib.hid (And.intro hn (And.intro h1 hB));have HMX:=Lib.hid h2
 have HLE:=Lib.hid fun k=>znz key k
 unfold maxLen at h2;clear h3 hkey h1 hB hn
 go_enter Tryz.func14,Tryz.ntmps14
 go_wp2
 go_loopw [3,8] (fun pv i wr=>∃ (k:Nat) (pw:Value) (wx:World),pw=pv/\wx=wr/\k<=N/\i=.int .i64 k/\Hid (wr.ownsRow (w.heap.size+1) 3 1 pv (pls key k).length (natV (pls key k)))/\Hid (Below w.heap.size w wr/\w.heap.size<wr.heap.size/\wr.cell? ⟨w.heap.size,0,none⟩=some (.slice A N cap))) (fun _ i _=>N - (intOf i).toNat)
 case atStart=>exact ⟨0,_,_,rfl,rfl,Nat.zero_le _,rfl,⟨by simp [natV,pls],.inl ⟨rfl,rfl⟩⟩,(Below.refl _ _).alloc (Nat.le_refl _) _,by simp,by simp [go_sem]⟩
 case round =>
  obtain ⟨k,pv,wr,rfl,rfl,hk,rfl,HO,HI⟩:=hrel
  by_cases hlt:k<N
  ·have d1:decide (k<N)=true:=decide_eq_true hlt
   obtain ⟨b,off,rfl,hb,hc⟩:=HC.out (by omega)
   have HRG:=Lib.hid ((hc k hlt).keep (w':=wr) fun p hp=>HI.out.1.cell (by rw [hp];have:=HN.out;omega)).range
   have HKK:=Lib.hid (HK.out k);obtain ⟨x,hx⟩:∃ x,x=L k:=⟨_,rfl⟩;rw [<- hx] at HRG HKK;clear hc hx HC;obtain ⟨mar,hmar⟩:∃ m,m=x.mar:=⟨_,rfl⟩;rw [<- hmar] at HKK;have HMR:=Lib.hid hmar;clear hmar;have HPS:=Lib.hid (zfr key k);have hplk:=HLE.out k
   have g0:(0:Int)<=(k:Int):=Int.natCast_nonneg _
   have g1:(k:Int)<(N:Int):=by omega
   have hKN:k<=1000000:=by have:=HN.out.1;omega
   have hzr:=HI.out.2.1
   by_cases hm:0<mar
   ·have d2:decide (mar > 0)=true:=decide_eq_true hm
    have HP1:Hid (pls key (k+1)=pls key k ++ [k]):=Lib.hid (by rw [HPS.out,if_pos (by rw [HKK.out];exact hm)])
    clear HPS hm
    go_wp2_with (first
     |(refine wpList_load_mid (by rfl) 68 _ (by rfl) b (off+k*19) (by rfl) x.cells _ HRG.out Tryz.underlying68 (by rfl) (by rw [Ent.cells_length];kernel_rfl) ?_;clear HRG)
     |(refine zak (by rfl) 68 _ _ (by rfl) wr.heap.size 0 x.cells.toArray (by rfl) (by rfl) (zco _ _) (by rw [List.size_toArray,Ent.cells_length];kernel_rfl) (all_oneCell_toArray x.cells_one) ?_;intro wz hst;(have z2:wz.cell? ⟨wr.heap.size,2,none⟩=some (.int .i64 mar):=by rw [HMR.out];exact hst.cells 2 _ rfl);(have HZO:=Lib.hid (za1 (HO.out.alloc _) hst (fun e=>by have:=(HO.out.lt _ e).2;omega)));(have HZB:Hid (Below w.heap.size w wz/\w.heap.size<wz.heap.size/\wz.heap.size=wr.heap.size+1/\wz.cell? ⟨w.heap.size,0,none⟩=some (.slice (some ⟨b,off,none⟩) N cap)):=⟨(HI.out.1.alloc (by omega) _).trans (hst.below _ (by omega)),by rw [hst.size];simp;omega,by rw [hst.size];simp,((hst.below wr.heap.size (Nat.le_refl _)).cell (p:=⟨w.heap.size,0,none⟩) hzr).trans ((World.cell?_alloc_lt _ _ _ hzr).trans HI.out.2.2)⟩);clear hst)
     |(at_builtin;refine zdp _ rfl zqn (.tmp 16) (.tmp 18) rfl (w.heap.size+1) pv (pls key k).length _ rfl (HZO.out.alloc _) (wz.heap.size+1) _ 1 [.int .i64 (k:Int)] rfl (Sl.lit wz #[.int .i64 (k:Int)] _ 1 rfl (by decide)) (by simp [Value.oneCell']) (by omega) (by have:=HZB.out.2.1;simp;omega) ?_;intro v2 w2 hown2 hgr2 hat2 hbel2;(have HO2:Hid (w2.ownsRow (w.heap.size+1) 3 1 v2 (pls key (k+1)).length (natV (pls key (k+1)))):=by rw [HP1.out,zj9,natV_one,List.length_append];exact hown2);(have HB2:Hid (Below w.heap.size w w2/\w.heap.size<w2.heap.size/\w2.cell? ⟨w.heap.size,0,none⟩=some (.slice (some ⟨b,off,none⟩) N cap)):=⟨(HZB.out.1.alloc (Nat.le_of_lt HZB.out.2.1) _).trans (hbel2.mono (by omega)),by have:=hbel2.size;have:=HZB.out.2.1;simp at *;omega,(hbel2.cell (p:=⟨w.heap.size,0,none⟩) (by show w.heap.size<_;omega)).trans ((World.cell?_alloc_lt _ _ _ HZB.out.2.1).trans HZB.out.2.2.2)⟩);clear hown2 hgr2 hat2 hbel2)
     |fail)
    go_roundw
    case rel=>exact ⟨k+1,_,_,rfl,rfl,by omega,by go_num,HO2.out,HB2.out⟩
    case measure=>simp [intOf];omega
   ·have d2:decide (mar > 0)=false:=decide_eq_false hm
    have HP1:Hid (pls key (k+1)=pls key k):=Lib.hid (by rw [HPS.out,if_neg (by rw [HKK.out];exact hm),List.append_nil])
    clear HPS hm
    go_wp2_with (first
     |(refine wpList_load_mid (by rfl) 68 _ (by rfl) b (off+k*19) (by rfl) x.cells _ HRG.out Tryz.underlying68 (by rfl) (by rw [Ent.cells_length];kernel_rfl) ?_;clear HRG)
     |(refine zak (by rfl) 68 _ _ (by rfl) wr.heap.size 0 x.cells.toArray (by rfl) (by rfl) (zco _ _) (by rw [List.size_toArray,Ent.cells_length];kernel_rfl) (all_oneCell_toArray x.cells_one) ?_;intro wz hst;(have z2:wz.cell? ⟨wr.heap.size,2,none⟩=some (.int .i64 mar):=by rw [HMR.out];exact hst.cells 2 _ rfl);(have HZO:=Lib.hid (za1 (HO.out.alloc _) hst (fun e=>by have:=(HO.out.lt _ e).2;omega)));(have HZB:Hid (Below w.heap.size w wz/\w.heap.size<wz.heap.size/\wz.heap.size=wr.heap.size+1/\wz.cell? ⟨w.heap.size,0,none⟩=some (.slice (some ⟨b,off,none⟩) N cap)):=⟨(HI.out.1.alloc (by omega) _).trans (hst.below _ (by omega)),by rw [hst.size];simp;omega,by rw [hst.size];simp,((hst.below wr.heap.size (Nat.le_refl _)).cell (p:=⟨w.heap.size,0,none⟩) hzr).trans ((World.cell?_alloc_lt _ _ _ hzr).trans HI.out.2.2)⟩);clear hst)
     |fail)
    go_roundw
    case rel=>exact ⟨k+1,_,_,rfl,rfl,by omega,by go_num,by rw [HP1.out];exact HZO.out,HZB.out.1,HZB.out.2.1,HZB.out.2.2.2⟩
    case measure=>simp [intOf];omega
  ·have hkN:k=N:=by omega
   subst hkN
   have d1:decide (k<k)=false:=decide_eq_false hlt
   obtain ⟨n,hn⟩:∃ n,n=(pls key k).length:=⟨_,rfl⟩
   rcases Nat.eq_zero_or_pos n with h0|h0
   ·have HZ:Hid ((pls key k).length=0):=Lib.hid (by rw [<- hn];exact h0)
    have hf:=(Sl.of_own HO.out).form;rw [HZ.out] at hf;obtain ⟨Ap,cp,rfl,_,hcm⟩:=hf;have HCM:=Lib.hid hcm
    have HS:=Lib.hid fun f W=>zn8 Ap cp f W
    clear h0 hn hcm hlt
    go_wp2_with first
     |((with_reducible refine Calls.mono (HS.out _ _) ?_);rintro _ w1 ⟨rfl,rfl⟩)
     |fail
    go_ret
    exact zo3 HZ.out HI.out.1 HCM.out
   ·obtain ⟨pb,cp,F,rfl,hnc,hpb,hrow,hat⟩:=zeq HO.out (by rw [<- hn];exact h0)
    have hcm:=(Sl.of_own HO.out).form
    have HCM:Hid ((pls key k).length<=cp/\cp<=maxLen):=by
     obtain ⟨A',c',e,e1,e2⟩:=hcm
     injection e with _ _ e
     subst e
     exact ⟨e1,e2⟩
    have hsr:SrAt wr pb (pls key k).length w.heap.size k key (getN (pls key k)):=by
     refine ⟨⟨cp,F,hrow,hnc,fun i hi=>?_⟩,⟨HI.out.2.1,by omega,A,cap,HI.out.2.2,fun hk0=>?_⟩,fun i hi=>(zdb.1 (zcv hi)).1⟩
     ·have:=hat i hi
      rw [zh8 hi] at this
      injection this with this
      exact this.symm
     ·obtain ⟨b,off,e,hb,hc⟩:=HC.out hk0
      refine ⟨b,off,e,by have:=HN.out.2.2;have:=HI.out.1.size;omega,by have:=HN.out.2.2;omega,fun i hi=>?_⟩
      rw [HK.out]
      exact (HI.out.1.cell (p:=⟨b,off+i*19+2,none⟩) (by show b<_;have:=HN.out.2.2;omega)).trans (hc i hi).2.2.1
    have HS:=Lib.hid (sort_row (cp:=cp) (by have:=HLE.out k;have:=HN.out.1;omega) hsr (zqm key k))
    have HPB:=Lib.hid hpb;rw [<- hn] at HS;have HNN:=Lib.hid hn;rw [<- hn];clear h0 hcm hat hrow hnc hpb hsr hlt hn
    go_wp2_with first
     |((with_reducible refine Calls.mono HS.out ?_);rintro _ w1 ⟨rfl,f',m1,m2,m3⟩;have HM:=Lib.hid (And.intro m1 (And.intro m2 m3));clear m1 m2 m3)
     |fail
    go_ret
    rw [HNN.out];rw [HNN.out] at HM
    exact ord_post HM.out.1 HM.out.2.1 (HI.out.1.trans (HM.out.2.2.below.mono (by have:=HPB.out;omega))) (by have:=HPB.out;omega) HCM.out.1 HCM.out.2
end
end
section
open Go.RowKit
theorem RfAll.putq {E:Nat->Prop} {w v:World} {L A S1 Q cQ:Nat} {X:Nat->Value} {bp bq P r S B n nv:Nat} {uv:Value} {lv:List Vl} {st:Nat->Int×Nat} {g:Nat->Nat->Pl} {G:Nat->Value} {R:Nat->Nat} {qv:Nat->Nat->Value} {qs:Nat->Nat->List Int} {i j:Nat} {u:Value} {l':List Int} (h:RfAll E w L A S1 Q cQ X bp bq P r S B n nv uv lv st g G R qv qs) (hi:i<P) (hj:j<P) (hb:Below w.heap.size w v) (ho:v.ownsRow w.heap.size 3 1 u l'.length (kv .i64 l')) (hu:∃ b,u.ownBlock=some b) :
  RfAll E (v.setCell ⟨R i,j,none⟩ u) L A S1 Q cQ X bp bq P r S B n nv uv lv st g G R (upd2 qv i j u) (upd2 qs i j l')/\MdFr E w (v.setCell ⟨R i,j,none⟩ u) L:=by
 have hr:v.rowIs (R i) 47 (capV (G i)) (qv i):=(h.qu.row i hi).of_block (hb.block _ (h.qu.row i hi).lt)
 have hoth:∀ b,b<w.heap.size->b≠R i->(qv i j).ownBlock≠some b->(v.setCell ⟨R i,j,none⟩ u).heap[b]?=w.heap[b]?:=fun b hlt h1 _=>(zab _ _ _ (by exact h1)).trans (hb.block b hlt)
 have hat:u.ownBlock=(qv i j).ownBlock\/∃ b,u.ownBlock=some b/\w.heap.size<=b:=by
  obtain ⟨b,hb'⟩:=hu
  exact .inr ⟨b,hb',(ho.lt b hb').1⟩
 have hown:(v.setCell ⟨R i,j,none⟩ u).ownsRow L 3 1 u l'.length (kv .i64 l'):=zas (zbm ho fun g e2=>zab _ _ _ (fun e3=>zad hr ho (by decide) (by rw [e2,e3]))) h.base
 have hL:Below L w (v.setCell ⟨R i,j,none⟩ u):=(hb.mono h.base).setCell (h.qu.low i hi) _;have hq:=h.qu.step hi hj u l' (hr.set j u) hoth hown hat
 exact ⟨h.queue hi hj (h.md.quiet h.qu hi hj hoth) hq hat hoth hL,RfFr.of_queue h (Below.refl _ _) hi hj hoth hL⟩
theorem ze9 {w:World} {b B:Nat} {x:Value} (h:w.cell? ⟨b,0,none⟩=some x) (hb:b<B):Sl w B 1 (.slice (some ⟨b,0,none⟩) 1 1) 1 [x] :=
 ⟨rfl,_,_,rfl,Nat.le_refl _,by decide,fun _=>⟨b,0,rfl,hb,fun k hk=>(by have e:k=0:=(by omega);subst e;exact h)⟩⟩
theorem sl_tail {w:World} {L cap b k:Nat} {x:Int} {l:List Int} (h:w.ownsRow L 3 1 (.slice (some ⟨b,0,none⟩) (k+1) cap) (k+1) (kv .i64 (x :: l))) :
  ∃ A:Addr,(if cap=1 then some (⟨b,0,none⟩:Addr) else some ⟨b,1,none⟩)=some A/\Sl w w.heap.size 1 (.slice (some A) k (cap - 1)) k (kv .i64 l):=by
 obtain ⟨hnc,hcm⟩:k+1<=cap/\cap<=maxLen:=by
  obtain ⟨A8,c8,h8,h81,h82⟩:=(Sl.of_own h).form
  injection h8 with _ _ h8
  subst h8
  exact ⟨h81,h82⟩
 have hlen:(kv .i64 (x :: l)).length=k+1:=by have:=h.1;omega
 have hl:(kv .i64 l).length=k:=by simp [kv] at hlen |-;omega
 have hb:=(h.lt b rfl).2
 by_cases hc:cap=1
 ·refine ⟨⟨b,0,none⟩,by simp [hc],by omega,_,_,rfl,by omega,by omega,fun hk=>by omega⟩
 ·refine ⟨⟨b,1,none⟩,by simp [hc],by omega,_,_,rfl,by omega,by omega,fun hk=>⟨b,1,rfl,hb,fun j hj=>?_⟩⟩
  rw [show 1+j=j+1 by omega]
  exact (h.cellAt (j+1) (by omega)).trans rfl
set_option maxRecDepth 20000 in
set_option maxHeartbeats 6400000 in
theorem zm6 {E:Nat->Prop} {w:World} {L A S1 Q cQ:Nat} {X:Nat->Value} {bp bq P r S B n nv:Nat} {uv:Value} {lv:List Vl} {st:Nat->Int×Nat} {g:Nat->Nat->Pl} {G:Nat->Value} {R:Nat->Nat} {qv:Nat->Nat->Value} {qs:Nat->Nat->List Int} (h:RfAll E w L A S1 Q cQ X bp bq P r S B n nv uv lv st g G R qv qs) (i:Nat) (j:Nat) (hi:i<P) (hj:j<P) (x:Int) (l:List Int) (hql:qs i j=x :: l) (hlen:(qs i j).length<=1000000) (vi sx kq km me un nw li sh bu id:Int):Calls Tryz.prog 19 #[.pointer (some ⟨A,0,none⟩),opV 11 ((i:Nat)) ((j:Nat)) vi sx kq km me un nw li sh bu id] w fun e w'=>e=.returned (.int .i64 x)/\(∃ qv',RfAll E w' L A S1 Q cQ X bp bq P r S B n nv uv lv st g G R qv' (upd2 qs i j l))/\MdFr E w w' L:=by
 have d1:decide (i<P)=true:=decide_eq_true hi
 have d2:decide (j<P)=true:=decide_eq_true hj
 have d3:decide (i<cQ)=true:=decide_eq_true (Nat.lt_of_lt_of_le hi h.md.pq)
 have hicQ:i<cQ:=Nat.lt_of_lt_of_le hi h.md.pq;obtain ⟨lq,hlq⟩:∃ x,x=(qs i j).length:=⟨_,rfl⟩;obtain ⟨Au,cu,hv,hcu,hcm⟩:=(Sl.of_own (h.qu.own i j hi hj)).form;rw [<- hlq] at hv hcu
 have HQC:Hid (∀ w',Below w.heap.size w w'->w'.cell? ⟨A,13,none⟩=some (.slice (some ⟨Q,0,none⟩) P cQ)/\w'.cell? ⟨Q,i,none⟩=some (.slice (some ⟨R i,0,none⟩) P (capV (G i)))/\w'.cell? ⟨R i,j,none⟩=some (.slice Au lq cu)/\w'.cell? ⟨A,7,none⟩=some (.int .i64 (r:Nat))):=fun w' hb=>by
  have hm:=h.call hb
  exact ⟨hm.md.cells.cell (by omega),(hm.md.queues.cell (Nat.lt_of_lt_of_le hi hm.md.pq)).trans (congrArg some (hm.qu.at_ i hi)),((hm.qu.row i hi).cell (Nat.lt_of_lt_of_le hj (hm.qu.cq i hi))).trans (by rw [hv]),(hm.md.cells.cell (by omega)).trans (congrArg some hm.md.x7)⟩
 have hQ:=h.qu;have hRz:R i<w.heap.size:=(hQ.row i hi).lt;have hQz:Q<w.heap.size:=h.md.queues.lt
 have HNE:Hid (A≠R i/\Q≠R i/\w.heap.size≠R i):=⟨zav h.md.cells (hQ.row i hi) (by decide),zav h.md.queues (hQ.row i hi) (by decide),by omega⟩
 have ho:=hQ.own i j hi hj;rw [hv,<- hlq] at ho
 have HFZ:Hid (∀ w',Below w.heap.size w w'->w'.frozen? ⟨R i,j,none⟩=false):=fun w' hb=>(h.qu.call hb).row i hi |>.frozen j
 rw [hql] at ho;obtain ⟨k,hk⟩:∃ k,k=l.length:=⟨_,rfl⟩
 obtain rfl:lq=k+1:=by rw [hlq,hql,List.length_cons,hk]
 have hkl:k<=1000000:=by rw [hql,List.length_cons] at hlen;omega
 clear hlen
 obtain ⟨b,rfl⟩:∃ b,Au=some ⟨b,0,none⟩:=by
  rcases ho.2 with hn|⟨z,cap,cur,hv9,_⟩
  ·cases hn.1
  ·injection hv9 with h1 _ _
   exact ⟨z,h1⟩
 have hbz:b<w.heap.size:=(ho.lt b rfl).2
 have hbR:b≠R i:=fun e=>zad (hQ.row i hi) ho (by decide) (by rw [e];rfl)
 have HTL:=Lib.hid fun w' (hb:Below w.heap.size w w')=>sl_tail (zac ho hb)
 have HX0:Hid (∀ w',Below w.heap.size w w'->w'.cell? ⟨b,0,none⟩=some (.int .i64 x)):=fun w' hb=>(hb.cell (p:=⟨b,0,none⟩) hbz).trans ((ho.cellAt 0 (by omega)).trans rfl)
 have hcm':k+1<=2 ^ 63 - 1:=by unfold maxLen at hcm;omega
 unfold maxLen at hcm
 have d4:((k+1:Nat):Int)≠0:=by omega
 have d5:(((k+1:Nat):Int) == 0)=false:=by simp;omega
 have d6:¬ (k:Int)+1=0:=by omega
 have d7:decide (0<k+1)=true:=by simp
 have hp1:(1:Int)<=(k:Int)+1:=by omega
 have hp2:(k:Int)<=(k:Int)+1:=by omega
 have HK:=Lib.hid hk;have HNN:=Lib.hid (And.intro hbR hbz);clear hv hlq hQ ho hql hk hbR
 have hfd:=fun w' (hb:Below w.heap.size w w')=>zag (Sl.of_own (h.call hb).md.vlans) (Nat.le_refl _) vi
 have HFD:=Lib.hid hfd;obtain ⟨w0,hw0⟩:∃ z,z=(w.alloc (.cells #[.int .i64 (11),.int .i64 ((i:Nat)),.int .i64 ((j:Nat)),.int .i64 (vi),.int .i64 (sx),.int .i64 (kq),.int .u64 (km),.int .u64 (me),.int .u64 (un),.int .u32 (nw),.int .u32 (li),.int .i64 (sh),.int .i64 (bu),.int .i64 (id)] 55)):=⟨_,rfl⟩
 have HB0:Hid (Below w.heap.size w w0):=by rw [hw0];exact (Below.refl _ _).alloc (Nat.le_refl _) _
 have HBOX:=Lib.hid (zbp hw0)
 have hwz:w.heap.size<w0.heap.size:=by rw [hw0];simp
 have hp0:=fun w' (hb:Below w.heap.size w w')=>zal (h.call hb) ((i:Nat))
 rw [zan hi] at hp0;have HP0:=Lib.hid hp0;clear hp0
 have hp1:=fun w' (hb:Below w.heap.size w w')=>zal (h.call hb) ((j:Nat))
 rw [zan hj] at hp1;have HP1:=Lib.hid hp1;clear hp1;have HH:=Lib.hid h;have hAz:A<w.heap.size:=h.md.cells.lt;clear h hfd;unfold opV
 go_enter Tryz.func19,Tryz.ntmps19
 go_wp2_with (first
  |(go_at_call 39;(with_reducible refine Calls.mono (HP0.out _ ((Below.refl _ _).alloc (Nat.le_refl _) _)) ?_);rintro e _ ⟨rfl,rfl⟩)
  |(go_at_call 39;(with_reducible refine Calls.mono (HP1.out _ ((Below.refl _ _).alloc (Nat.le_refl _) _)) ?_);rintro e _ ⟨rfl,rfl⟩)
  |fail)
 rw [<- hw0];clear hw0;obtain ⟨q0,q1,q2,q3,q4,q5,q6,q7,q8,q9,q10,q11,q12,q13⟩:=HBOX.out _ (Below.refl _ _)
 have c11:w0.cell? ⟨A,11,none⟩=some uv:=(HH.out.call HB0.out).md.cells.cell (by omega)
 refine wp_region_held_drew (S:=fun w'=>w'.cell? ⟨A,11,none⟩=some uv/\w'.cell? ⟨w.heap.size,3,none⟩=some (.int .i64 (vi))) (by kernel_rfl) ?_ (fun hHeld=>?_)
 ·exact ⟨c11,q3⟩
 obtain ⟨v0,hv0⟩:∃ w',w'=w0.drew:=⟨_,rfl⟩
 have hvb:Below w0.heap.size w0 v0:=by rw [hv0];exact (Below.refl _ _).drew
 have HVZ:Hid (v0.heap.size=w0.heap.size):=by show _=_;rw [hv0];rfl
 rw [<- hv0] at hHeld |-;clear hv0;refine tk 0 ?_;refine tk 1 ?_;refine tk 2 ?_;refine tk 3 ?_;refine tk 4 ?_;refine tk 5 ?_
 refine clR 6 rfl fun K hK=>?_
 go_simp
 refine Calls.mono (HFD.out _ (HB0.out.trans (hvb.mono HB0.out.size))) ?_
 rintro e w1 ⟨rfl,hb1⟩
 have HB1':Hid (Below w0.heap.size w0 w1):=hvb.trans (hb1.mono (by rw [HVZ.out];exact Nat.le_refl _))
 have hz1:w0.heap.size<=w1.heap.size:=HB1'.out.size
 refine hK.out _ _ ?_ (fun hHeld=>?_)
 ·(try dsimp only)
  obtain ⟨x0,x1⟩:=hHeld
  exact ⟨(hb1.cell (p:=⟨A,11,none⟩) (by show A<v0.heap.size;rw [HVZ.out];omega)).trans x0,(hb1.cell (p:=⟨w.heap.size,3,none⟩) (by show w.heap.size<v0.heap.size;rw [HVZ.out];omega)).trans x1⟩
 clear hK K;refine tk 7 ?_
 refine dnR ?_
 have HB1:Hid (Below w.heap.size w w1):=HB0.out.trans (HB1'.out.mono HB0.out.size);have HM:=Lib.hid (HH.out.call HB1.out);clear hHeld c11 q0 q1 q2 q3 q4 q5 q6 q7 q8 q9 q10 q11 q12 q13 hb1 hvb;obtain ⟨q0,q1,q2,q3,q4,q5,q6,q7,q8,q9,q10,q11,q12,q13⟩:=HBOX.out _ HB1'.out;obtain ⟨e13,eq,er,e7⟩:=HQC.out _ HB1.out
 go_wp2_with fail
 refine wp_region_held_drew (S:=fun w'=>w'.cell? ⟨A,13,none⟩=some (.slice (some ⟨Q,0,none⟩) P cQ)/\w'.cell? ⟨Q,i,none⟩=some (.slice (some ⟨R i,0,none⟩) P (capV (G i)))/\w'.cell? ⟨R i,j,none⟩=some (.slice (some ⟨b,0,none⟩) (k+1) cu)/\w'.cell? ⟨w.heap.size,1,none⟩=some (.int .i64 (i:Nat))/\w'.cell? ⟨w.heap.size,2,none⟩=some (.int .i64 (j:Nat))) (by kernel_rfl) ?_ (fun hHeld=>?_)
 ·exact ⟨e13,eq,er,q1,q2⟩
 obtain ⟨v1,hv0⟩:∃ w',w'=w1.drew:=⟨_,rfl⟩
 have hvb:Below w1.heap.size w1 v1:=by rw [hv0];exact (Below.refl _ _).drew
 have HVZ:Hid (v1.heap.size=w1.heap.size):=by show _=_;rw [hv0];rfl
 rw [<- hv0] at hHeld |-;clear hv0;refine tk 0 ?_;refine tk 1 ?_;refine tk 2 ?_;refine tk 3 ?_;refine tk 4 ?_;refine tk 5 ?_;refine tk 6 ?_;refine tk 7 ?_;refine tk 8 ?_;refine tk 9 ?_;refine tk 10 ?_;refine tk 11 ?_;refine tk 12 ?_
 refine dnR ?_
 have HBV:Hid (Below w.heap.size w v1):=HB1.out.trans (hvb.mono HB1.out.size);have HBW:Hid (Below w0.heap.size w0 v1):=HB1'.out.trans (hvb.mono HB1'.out.size);clear hHeld q0 q1 q2 q3 q4 q5 q6 q7 q8 q9 q10 q11 q12 q13 hvb HVZ e13 eq er e7;obtain ⟨e13,eq,er,e7⟩:=HQC.out _ HBV.out;obtain ⟨q0,q1,q2,q3,q4,q5,q6,q7,q8,q9,q10,q11,q12,q13⟩:=HBOX.out _ HBW.out
 go_wp2_with fail
 refine wp_region_held_drew (S:=fun w'=>w'.cell? ⟨A,13,none⟩=some (.slice (some ⟨Q,0,none⟩) P cQ)/\w'.cell? ⟨Q,i,none⟩=some (.slice (some ⟨R i,0,none⟩) P (capV (G i)))/\w'.cell? ⟨w.heap.size,1,none⟩=some (.int .i64 (i:Nat))/\w'.cell? ⟨w.heap.size,2,none⟩=some (.int .i64 (j:Nat))) (by kernel_rfl) ?_ (fun hHeld=>?_)
 ·exact ⟨e13,eq,q1,q2⟩
 obtain ⟨v2,hv0⟩:∃ w',w'=v1.drew:=⟨_,rfl⟩
 have hvb:Below v1.heap.size v1 v2:=by rw [hv0];exact (Below.refl _ _).drew
 have HB2:Hid (Below w.heap.size w v2):=HBV.out.trans (hvb.mono HBV.out.size);have HBW2:Hid (Below w0.heap.size w0 v2):=HBW.out.trans (hvb.mono HBW.out.size);rw [<- hv0] at hHeld |-;clear hv0 e13 eq er e7 q0 q1 q2 q3 q4 q5 q6 q7 q8 q9 q10 q11 q12 q13;obtain ⟨Ab,hAb,hTT⟩:=HTL.out _ HB2.out;have HTT:=Lib.hid hTT;clear hTT;refine tk 0 ?_;refine tk 1 ?_;refine tk 2 ?_;refine tk 3 ?_;refine tk 4 ?_;refine tk 5 ?_;refine tk 6 ?_;refine tk 7 ?_;refine tk 8 ?_;refine tk 9 ?_;refine tk 11 ?_;refine tk 12 ?_
 refine wpAnyH_ready (rs:=[10]) (by kernel_rfl) (by simp) ?_
 refine ac1 rfl fun K hK=>?_
 go_simp
 refine hK.out _ _ ?_ (fun hHeld=>?_)
 ·(try dsimp only)
  obtain ⟨a1,a2,_,_⟩:=HQC.out _ (HB2.out.alloc HB2.out.size _);obtain ⟨_,a3,a4,_⟩:=HBOX.out _ (HBW2.out.alloc HBW2.out.size _)
  exact ⟨a1,a2,a3,a4⟩
 clear hK K
 (try simp only [Act.put,sqA,sqB,sqC])
 obtain ⟨za,hza⟩:∃ o,o=v2.heap.size:=⟨_,rfl⟩;obtain ⟨wa,hwa⟩:∃ x,x=v2.alloc (.cells #[] 3):=⟨_,rfl⟩
 have HOa:Hid (wa.ownsRow v2.heap.size 3 1 (.slice (some ⟨za,0,none⟩) 0 0) 0 []):=by rw [hwa,hza];exact ⟨by simp,.inr ⟨v2.heap.size,0,#[],rfl,Nat.le_refl _,heap_alloc_new v2 _,Nat.le_refl _,by simp [maxLen],by simp,by simp⟩⟩
 have hBwa:Below v2.heap.size v2 wa:=by rw [hwa];exact (Below.refl _ _).alloc (Nat.le_refl _) _
 rw [<- hza,<- hwa]
 (try rw [<- hwa] at hHeld)
 clear hwa hza
 refine wpAnyH_ready (rs:=[13]) (by kernel_rfl) (by simp) ?_
 refine ac1 rfl fun K hK=>?_
 refine zam _ (by rfl) zb9 _ _ (by rfl) v2.heap.size (.slice (some ⟨za,0,none⟩) 0 0) 0 [] (by rfl) HOa.out v2.heap.size (.slice (some Ab) k (cu - 1)) k (kv .i64 l) (by rfl) (HTT.out.below hBwa) (zcl _) (by omega) hBwa.size ?_
 intro v9 w9 hown9 hgr9 hat9 hbel9;have hBw9:Below v2.heap.size v2 w9:=hBwa.trans hbel9;obtain ⟨A9,c9,hv9,_,_⟩:=(Sl.of_own hown9).form;subst hv9
 simp only [Nat.zero_add] at hown9 hat9 |-
 have hx9:∃ b,(Value.slice A9 k c9).ownBlock=some b:=by
  rcases hat9 with h8|h8
  ·exact ⟨_,h8⟩
  ·exact ⟨_,h8⟩
 have HB9:Hid (Below w.heap.size w w9):=HB2.out.trans (hBw9.mono HB2.out.size)
 have HO9:Hid (w9.ownsRow w.heap.size 3 1 (.slice A9 k c9) l.length (kv .i64 l)):=by
  have h8:=zas hown9 HB2.out.size;rw [List.nil_append] at h8;rw [<- HK.out]
  exact Lib.hid h8
 have y1:w9.cell? ⟨R i,j,none⟩=some (.slice (some ⟨b,0,none⟩) (k+1) cu):=(HQC.out _ HB9.out).2.2.1
 have y2:w9.frozen? ⟨R i,j,none⟩=false:=HFZ.out _ HB9.out
 have HW9:Hid (Below w0.heap.size w0 w9):=HBW2.out.trans (hBw9.mono HBW2.out.size);clear hown9 hgr9 hat9 hbel9
 refine hK.out _ _ ?_ (fun hHeld=>?_)
 ·(try dsimp only)
  obtain ⟨a1,a2,_,_⟩:=HQC.out _ HB9.out;obtain ⟨_,a3,a4,_⟩:=HBOX.out _ HW9.out
  exact ⟨a1,a2,a3,a4⟩
 clear hK K;refine tk 14 ?_
 refine wpAnyH_ready (rs:=[15]) (by kernel_rfl) (by simp) ?_
 refine ac1 rfl fun K hK=>?_
 go_simp
 refine hK.out _ _ ?_ (fun hHeld=>?_)
 ·(try dsimp only)
  obtain ⟨a1,a2,_,_⟩:=HQC.out _ HB9.out;obtain ⟨_,a3,a4,_⟩:=HBOX.out _ HW9.out;have hz9:=HB9.out.size;have hz9':=HW9.out.size
  exact ⟨((But.set j _).cell (show A<w9.heap.size by omega) HNE.out.1).trans a1,((But.set j _).cell (show Q<w9.heap.size by omega) HNE.out.2.1).trans a2,((But.set j _).cell (show w.heap.size<w9.heap.size by omega) HNE.out.2.2).trans a3,((But.set j _).cell (show w.heap.size<w9.heap.size by omega) HNE.out.2.2).trans a4⟩
 clear hK K
 (try simp only [Act.put,sqA,sqB,sqC])
 refine dnR ?_
 have HF:=Lib.hid (HH.out.putq hi hj HB9.out HO9.out hx9)
 have x0:(w9.setCell ⟨R i,j,none⟩ (.slice A9 k c9)).cell? ⟨b,0,none⟩=some (.int .i64 x):=((But.set j _).cell (show b<w9.heap.size by have:=HB9.out.size;have:=HNN.out.2;omega) HNN.out.1).trans (HX0.out _ HB9.out)
 clear hHeld y1 y2 hvb
 go_wp2
 go_ret
 exact ⟨by first|rfl|(simp;done),⟨_,HF.out.1⟩,HF.out.2⟩
end
end Go.Proofs.YtfekhdgjgjodlaaGreat
