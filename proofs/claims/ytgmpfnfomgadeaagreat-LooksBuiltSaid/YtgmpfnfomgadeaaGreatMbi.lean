/- Joined: BlRep, BlTi, BlTimes. -/
import Derived.Test.YtgmpfnfomgadeaaGreatMbb
import Derived.Shelf.Bits.Mul64
import Derived.Laws.CopyOwn
import Derived.Deep.QuietTactic
import Derived.Deep.RegionHeld3
import Derived.Test.YtgmpfnfomgadeaaGreatMbh
import Derived.Maps.AppendAt
/- slices.Repeat of a list of one whole number. -/
set_option linter.unusedSimpArgs false
set_option linter.unusedVariables false
set_option maxHeartbeats 16000000
set_option maxRecDepth 100000
namespace Go.Proofs.YtgmpfnfomgadeaaGreat
open Go.Shelf
def lib_lays212_ren:Go.Shelf.Ren:=⟨fun | 212=>91 | 263=>97 | 264=>98 | n=>n,fun | 46=>66 | 51=>138 | 146=>139 | 53=>22 | 148=>141 | n=>n,fun | n=>n⟩
theorem lib_lays212:Go.Proofs.Lays.n212 Tryz.prog lib_lays212_ren:={
  mixed:=by kernel_rfl
  f212:=Tryz.func91.trans (congrArg some (by kernel_rfl))
  f263:=Tryz.func97.trans (congrArg some (by kernel_rfl))
  f264:=Tryz.func98.trans (congrArg some (by kernel_rfl))
  t46:=Tryz.underlying66
  a46:=Tryz.isAgg66
  z46:=Tryz.sizeOf66
  v46:=Tryz.zeroValue66
  t51:=Tryz.underlying138
  a51:=Tryz.isAgg138
  z51:=Tryz.sizeOf138
  v51:=Tryz.zeroValue138
  t53:=Tryz.underlying22
  a53:=Tryz.isAgg22
  z53:=Tryz.sizeOf22
  v53:=Tryz.zeroValue22
  t146:=Tryz.underlying139
  a146:=Tryz.isAgg139
  z146:=Tryz.sizeOf139
  v146:=Tryz.zeroValue139
  t148:=Tryz.underlying141
  a148:=Tryz.isAgg141
  z148:=Tryz.sizeOf141
  v148:=Tryz.zeroValue141}
open Go.RowKit Go.Lib in
theorem lib_bits_Mul (x y:Nat) (hx:x<18446744073709551616) (hy:y<18446744073709551616) (w:World) :
    Calls Tryz.prog 91 #[.int .u64 x,.int .u64 y] w fun e w'=>e=.returned (.tuple #[.int .u64 ((x*y / 18446744073709551616:Nat):Int),.int .u64 ((x*y % 18446744073709551616:Nat):Int)])∧w'=w:=Any.bits_Mul lib_lays212 x y hx hy w
open Go.RowKit
def curL (x:Int) (n m:Nat):List Value:=(List.replicate n x++List.replicate (m-n) 0).map (Value.int .i64)
theorem curL_arr (x:Int) (n m:Nat):(curL x n m).toArray=arrI (List.replicate n x) m:=by unfold curL arrI;rw[List.length_replicate]
theorem curL_len (x:Int) {n m:Nat} (h:n≤m):(curL x n m).length=m:=by unfold curL;simp;omega
theorem curL_get (x:Int) {n m j:Nat} (h:j<n):(curL x n m)[j]?=some (.int .i64 x):=by
  unfold curL
  rw[List.getElem?_map,List.getElem?_append_left (by simpa using h),List.getElem?_replicate,if_pos h];rfl
theorem curL_splice (x:Int) {n m q:Nat} (h:n+q≤m):splice (curL x n m) n (List.replicate q (.int .i64 x))=curL x (n+q) m:=by
  have e1:(curL x n m).take n=List.replicate n (.int .i64 x):=by unfold curL;rw[←List.map_take,List.take_left' (by simp)];simp
  have e2:(curL x n m).drop (n+q)=List.replicate (m-(n+q)) (.int .i64 0):=by
    unfold curL
    rw[←List.map_drop,List.drop_append,List.drop_eq_nil_of_le (by simp),List.nil_append,List.drop_replicate,List.map_replicate,List.length_replicate]
    congr 1;omega
  unfold splice
  rw[e1,List.length_replicate,e2]
  unfold curL
  rw[List.map_append,List.map_replicate,List.map_replicate,←List.append_assoc,List.replicate_append_replicate]
theorem one_int:(Tryz.prog.info? 3).map (·.size)=some 1:=by kernel_rfl
theorem copy_rep (x:Int) {W:World} {G n m q dLen dCap sLen sCap:Nat} {ad:Addr} (ty:TypeId) (h:At W G 3 (curL x n m).toArray) (hq:q=Nat.min sLen dLen) (hnq:n+q≤m) (hsrc:∀j,j<q→W.cell? (ad.add j)=some (.int .i64 x)) :
    ∃w',(Builtin.copy_ #[73,73] ty #[.slice (some ⟨G,n,none⟩) dLen dCap,.slice (some ad) sLen sCap]).run Tryz.prog W=.ok (.int .i64 (q:Int)) w'∧At w' G 3 (curL x (n+q) m).toArray∧∀B w0,Below B w0 W→B≤G→Below B w0 w':=by
  have hrun:=run_copy_row (P:=Tryz.prog) W 73 73 ty 3 G n dLen dCap ad sLen sCap (curL x n m).toArray 3 (List.replicate q (.int .i64 x)) Tryz.underlying73 one_int h (by simpa using hq) (fun j v hv=>by
    rw[List.getElem?_replicate] at hv
    split at hv
    · rename_i hj
      injection hv with hv
      subst hv
      exact hsrc j hj
    · cases hv) (by rw[List.length_replicate,List.size_toArray,curL_len x (by omega)];exact hnq) (fun v hv=>by rw[List.eq_of_mem_replicate hv];rfl)
  have e:=curL_splice x hnq
  unfold splice at e
  rw[←List.append_assoc] at e
  rw[List.length_replicate] at hrun e
  rw[show (curL x n m).toArray.toList=curL x n m from rfl,e] at hrun
  exact ⟨_,hrun,At.row h _,fun B w0 hb hB=>below_row hb hB _⟩
theorem bRepeat (x:Int) (m:Nat) (hm:m≤20) (b off c:Nat) (w:World) (hx:w.cell? ⟨b,off,none⟩=some (.int .i64 x)) (hb:b<w.heap.size) :
    Calls Tryz.prog 80 #[.slice (some ⟨b,off,none⟩) 1 c,.int .i64 (m:Int)] w fun e w'=>∃v',e=.returned v'∧IdRow w' w.heap.size v' (List.replicate m x)∧Below w.heap.size w w':=by
  have hMul:=lib_bits_Mul 1 m (by omega) (by omega) w
  rw[Nat.one_mul,Nat.div_eq_of_lt (by omega),Nat.mod_eq_of_lt (by omega)] at hMul
  have hMul:Calls Tryz.prog 91 #[.int .u64 1,.int .u64 (m:Int)] w fun e w'=>e=.returned (.tuple #[.int .u64 0,.int .u64 (m:Int)])∧w'=w:=hMul
  have HMul:=Lib.hid hMul
  have hmk:=make_int m (by omega) w
  have h0:¬(m:Int)<0:=by omega
  have h0d:=decide_eq_false h0
  have hu:IntKind.u64.wrap (m:Int)=(m:Int):=by rw[IntKind.wrap_u64];omega
  have hi:IntKind.i64.wrap (m:Int)=(m:Int):=by rw[IntWalk.i64_left,IntWalk.wrap64_in _ (by omega)]
  have hg:¬(9223372036854775807:Int)<(m:Int):=by omega
  have hgd:=decide_eq_false hg
  have HAt:Hid (At (w.alloc (.cells (arrI [] m) 3)) w.heap.size 3 (curL x 0 m).toArray):=Lib.hid (by rw[curL_arr];exact At.new _ _ _)
  have HBl:Hid (Below w.heap.size w (w.alloc (.cells (arrI [] m) 3))):=Lib.hid ((Below.refl _ _).alloc (Nat.le_refl _) _)
  have HX:Hid ((w.alloc (.cells (arrI [] m) 3)).cell? ⟨b,off,none⟩=some (.int .i64 x)):=Lib.hid ((World.cell?_of_block (a:=⟨b,off,none⟩) (Below.heap_alloc _ _ b hb)).trans hx)
  clear hMul hx
  go_enter Tryz.func80,Tryz.ntmps80
  go_wp2_with fail
  refine HMul.out.mono ?_
  rintro e w2 ⟨rfl,hw⟩
  obtain rfl:w=w2:=hw.symm
  obtain ⟨w4,hrun,hat,hbl⟩:=copy_rep x (dLen:=m) (dCap:=m) (sLen:=1) (sCap:=c) (ad:=⟨b,off,none⟩) (q:=Nat.min 1 m) 3 HAt.out rfl (by have:Nat.min 1 m≤m:=Nat.min_le_right _ _;omega) (fun j hj=>by
    have h1:Nat.min 1 m≤1:=Nat.min_le_left _ _
    obtain rfl:j=0:=by omega
    exact HX.out)
  rw[Nat.zero_add] at hat
  have HA4:=Lib.hid hat
  have HB4:=Lib.hid (hbl _ _ HBl.out (Nat.le_refl _))
  clear hat hbl
  go_wp2_with fail
  have hq0:∀i j:Nat,i<j→True:=fun _ _ _=>trivial
  go_loopw [8] (fun y wr=>∃n:Nat,n≤m∧(n=0→m=0)∧y=.int .i64 (n:Int)∧Hid (At wr w.heap.size 3 (curL x n m).toArray)∧Hid (Below w.heap.size w wr)) (fun y _=>m-(intOf y).toNat)
  case atStart=>exact ⟨Nat.min 1 m,Nat.min_le_right _ _,fun e=>by have:Nat.min 1 m=min 1 m:=rfl;omega,rfl,HA4,HB4⟩
  case round =>
    clear hrun
    obtain ⟨n,hn,hn0,rfl,HA,HB⟩:=hrel
    by_cases hlt:n<m
    · have hnz:(0:Int)≤(n:Int):=by omega
      have hnm:(n:Int)<(m:Int):=by omega
      have hnm2:(n:Int)≤(m:Int):=by omega
      obtain ⟨q,hq⟩:∃q,q=Nat.min n (m-n):=⟨_,rfl⟩
      have hq1:1≤q∧n+q≤m∧q≤n:=by have:Nat.min n (m-n)=min n (m-n):=rfl;omega
      have hAd:At wr.drew w.heap.size 3 (curL x n m).toArray:=HA.out
      obtain ⟨w5,hrun,hat,hbl⟩:=copy_rep x (dLen:=m-n) (dCap:=m-n) (sLen:=n) (sCap:=m) (ad:=⟨w.heap.size,0,none⟩) 3 hAd hq hq1.2.1 (fun j hj=>by
        have h1:=At.cell hAd j
        have e:(⟨w.heap.size,0,none⟩:Addr).add j=⟨w.heap.size,j,none⟩:=by simp[Addr.add]<;>omega
        rw[e,h1]
        have h2:=curL_get x (m:=m) (show j<n by omega)
        simpa using h2)
      have hne:¬m=n:=by omega
      have HA5:=Lib.hid hat
      have HB5:=Lib.hid (hbl _ _ (show Below w.heap.size w wr.drew from HB.out.drew) (Nat.le_refl _))
      clear hat hbl hAd hq
      have hqw:IntKind.i64.wrap ((n:Int)+(q:Int))=((n+q:Nat):Int):=by rw[IntWalk.i64_left,IntWalk.wrap64_in _ (by omega)];omega
      go_wp2_with fail
      refine wp_region_noPanic ?_
      refine wp_region_held_drew (S:=(fun _=>True)) (by kernel_rfl) (by trivial) (fun hHeld=>?_)
      refine wpAnyH_take (i:=0) (oi:=⟨some 38,_,_,_,_,_⟩) (v:=?_) rfl (by kernel_rfl) (by kernel_rfl) (by kernel_rfl) (fun _ _ _ h=>h) (Or.inl ⟨by rfl,?_⟩) (by exact hHeld) ?_
      rotate_left
      · (intro w hSw;(try dsimp only at hSw);go_simp;try (with_reducible rfl))
      simp only[Act.put,List.setIfInBounds_toArray,List.set_cons_zero,List.set_cons_succ]
      refine wpAnyH_take (i:=1) (oi:=⟨some 39,_,_,_,_,_⟩) (v:=?_) rfl (by kernel_rfl) (by kernel_rfl) (by kernel_rfl) (fun _ _ _ h=>h) (Or.inl ⟨by rfl,?_⟩) (by exact hHeld) ?_
      rotate_left
      · (intro w hSw;(try dsimp only at hSw);go_simp;try (with_reducible rfl))
      simp only[Act.put,List.setIfInBounds_toArray,List.set_cons_zero,List.set_cons_succ]
      refine wpAnyH_take (i:=2) (oi:=⟨some 40,_,_,_,_,_⟩) (v:=?_) rfl (by kernel_rfl) (by kernel_rfl) (by kernel_rfl) (fun _ _ _ h=>h) (Or.inl ⟨by rfl,?_⟩) (by exact hHeld) ?_
      rotate_left
      · (intro w hSw;(try dsimp only at hSw);go_simp;try (with_reducible rfl))
      simp only[Act.put,List.setIfInBounds_toArray,List.set_cons_zero,List.set_cons_succ]
      refine wpAnyH_take (i:=3) (oi:=⟨some 41,_,_,_,_,_⟩) (v:=?_) rfl (by kernel_rfl) (by kernel_rfl) (by kernel_rfl) (fun _ _ _ h=>h) (Or.inl ⟨by rfl,?_⟩) (by exact hHeld) ?_
      rotate_left
      · (intro w hSw;(try dsimp only at hSw);go_simp;try (with_reducible rfl))
      simp only[Act.put,List.setIfInBounds_toArray,List.set_cons_zero,List.set_cons_succ]
      refine wpAnyH_take (i:=4) (oi:=⟨some 42,_,_,_,_,_⟩) (v:=?_) rfl (by kernel_rfl) (by kernel_rfl) (by kernel_rfl) (fun _ _ _ h=>h) (Or.inl ⟨by rfl,?_⟩) (by exact hHeld) ?_
      rotate_left
      · (intro w hSw;(try dsimp only at hSw);go_simp;try (with_reducible rfl))
      simp only[Act.put,List.setIfInBounds_toArray,List.set_cons_zero,List.set_cons_succ]
      refine wpAnyH_take (i:=5) (oi:=⟨some 43,_,_,_,_,_⟩) (v:=?_) rfl (by kernel_rfl) (by kernel_rfl) (by kernel_rfl) (fun _ _ _ h=>h) (Or.inl ⟨by rfl,?_⟩) (by exact hHeld) ?_
      rotate_left
      · (intro w hSw;(try dsimp only at hSw);go_simp;try (with_reducible rfl))
      simp only[Act.put,List.setIfInBounds_toArray,List.set_cons_zero,List.set_cons_succ]
      refine wpAnyH_take (i:=6) (oi:=⟨some 44,_,_,_,_,_⟩) (v:=?_) rfl (by kernel_rfl) (by kernel_rfl) (by kernel_rfl) (fun _ _ _ h=>h) (Or.inl ⟨by rfl,?_⟩) (by exact hHeld) ?_
      rotate_left
      · (intro w hSw;(try dsimp only at hSw);go_simp;try (with_reducible rfl))
      simp only[Act.put,List.setIfInBounds_toArray,List.set_cons_zero,List.set_cons_succ]
      refine wpAnyH_ready (rs:=[7]) (by kernel_rfl) (by simp) ?_
      refine AllReadyH.cons (o:=⟨some 45,_,_,_,_,_⟩) rfl (fun K hK=>?_) AllReadyH.nil
      go_simp
      refine hK.out _ _ ?_ (fun hHeld=>?_)
      · trivial
      clear hK K
      try simp only[Act.put,List.setIfInBounds_toArray,List.set_cons_zero,List.set_cons_succ]
      refine wpAnyH_take (i:=8) (oi:=⟨some 46,_,_,_,_,_⟩) (v:=?_) rfl (by kernel_rfl) (by kernel_rfl) (by kernel_rfl) (fun _ _ _ h=>h) (Or.inl ⟨by rfl,?_⟩) (by exact hHeld) ?_
      rotate_left
      · (intro w hSw;(try dsimp only at hSw);go_simp;try (with_reducible rfl))
      simp only[Act.put,List.setIfInBounds_toArray,List.set_cons_zero,List.set_cons_succ]
      refine wpAnyH_take (i:=9) (oi:=⟨some 8,_,_,_,_,_⟩) (v:=?_) rfl (by kernel_rfl) (by kernel_rfl) (by kernel_rfl) (fun _ _ _ h=>h) (Or.inl ⟨by rfl,?_⟩) (by exact hHeld) ?_
      rotate_left
      · (intro w hSw;(try dsimp only at hSw);go_simp;try (with_reducible rfl))
      simp only[Act.put,List.setIfInBounds_toArray,List.set_cons_zero,List.set_cons_succ]
      refine wpAnyH_done (by kernel_rfl) ?_ _
      refine NoPanic.normal ?_
      go_wp2_with fail
      exact ⟨⟨n+q,hq1.2.1,by omega,by go_num,HA5,HB5⟩,by simp[intOf]<;>omega⟩
    · obtain rfl:n=m:=by omega
      go_wp2_with fail
      go_ret
      refine ⟨_,rfl,?_,HB.out⟩
      have h1:=HA.out
      rw[curL_arr] at h1
      have h2:=arrI_row (xs:=List.replicate n x) (by rw[List.length_replicate];exact h1) (by simp;omega)
      rw[List.length_replicate] at h2
      exact h2
end Go.Proofs.YtgmpfnfomgadeaaGreat

/- norm's builder: times. -/
set_option linter.unusedSectionVars false
set_option linter.unusedSimpArgs false
set_option linter.unusedVariables false
namespace Go.Proofs.YtgmpfnfomgadeaaGreat
open Go.RowKit Go.Shelf
variable {D:List Nat→List Nat→Prop} {u:Value}
theorem times_any {lo:Int} (h:0≤lo∧lo≤20):(timesS lo (-1)).toNat=max lo.toNat 1:=by
  unfold timesS timesLo cut2000
  (repeat' split)<;>omega
theorem times_to {lo hi:Int} (h:0≤lo∧lo≤hi∧1≤hi∧hi≤20):(timesS lo hi).toNat=hi.toNat:=by
  unfold timesS timesLo cut2000
  (repeat' split)<;>omega
theorem catN_rep {ns:List Nd} {x:Int} {n:Nat} (h:catN ns x≤n) (lo:Nat):((List.replicate lo x).map (catN ns)).sum≤lo*n:=by
  rw[List.map_replicate]
  induction lo with
  | zero=>exact Nat.zero_le _
  | succ lo ih=>rw[List.replicate_succ,List.sum_cons,Nat.succ_mul];omega
theorem catN_led {ns:List Nd} {x z:Int} {n:Nat} (h:catN ns x≤n) (hz:kd ns z≠3) (lo:Nat):((List.replicate lo x++[z]).map (catN ns)).sum≤lo*n+1:=by
  have h1:=catN_rep h lo
  have h2:=catN_small hz
  rw[List.map_append,List.sum_append,List.map_singleton,List.sum_singleton]
  omega
theorem star_no3 {ns:List Nd} {x z:Int} (h:StarR ns x z):kd ns z≠3:=fun k3=>by
  by_cases e:kd ns x=0∨kd ns x=1
  · have:=h.2.1 e;omega
  · by_cases e7:kd ns x=7
    · have:=h.2.2.1 e7;rw[this] at k3;omega
    · have:=(h.2.2.2 (by omega) (by omega) e7).1;omega
section
variable {AA:World→Value→List Nd→(Nat→Prop)→Prop}
theorem tCat (S:ArenaMap AA) {w w5:World} {a v:Value} {ns more1:List Nd} {F F1:Nat→Prop} {f:List Nat→Tbl} {gz:List Nat→Tbl} {B0 g n T lo c1:Nat} {x z:Int} (h:AA w5 a (ns++more1) F1) (hlow:∀b,F1 b→F b∨w.heap.size≤b) (ho:OffF F w w5) (hc:Canon (ns++more1)) (hb:BAt w5 g a u) (hgF:¬F1 g) (hv:IdRow w5 B0 v (List.replicate lo x++[z])) (hvF:∀b,v.ownBlock=some b→¬F1 b) (hx:isIn (ns++more1) x) (hz:isIn (ns++more1) z) (wx:Wide (ns++more1) n x) (wz:Wide (ns++more1) (n+1) z) (hz3:kd (ns++more1) z≠3) (hf:TabR D (ns++more1) x f) (hg:TabR D (ns++more1) z gz) (hn:1≤n) (hn2:n≤150) (hlo:lo≤20) (hT:lo≤T) (hT1:1≤T) (hm:more1.length≤c1) (hroom:(ns++more1).length≤16000) :
    Calls Tryz.prog 55 #[.pointer (some ⟨g,0,none⟩),v] w5 (Grows AA w a ns F fun more r=>Wide (ns++more) (n*T+1) r∧TabR D (ns++more) r (fun l=>ledF (f l) (l.length+1) lo (gz l))∧more.length≤c1+lo*n+1):=by
  have hll:(List.replicate lo x++[z]).length=lo+1:=by simp
  have hlin:∀y∈List.replicate lo x++[z],isIn (ns++more1) y:=fun y hy=>by
    rcases List.mem_append.1 hy with hy | hy
    · rw[List.eq_of_mem_replicate hy];exact hx
    · rw[List.mem_singleton.1 hy];exact hz
  have hcx:=wx.1.1
  have hcz:=catN_small hz3
  have hroom2:(lo+1)*n≤21*150:=Nat.mul_le_mul (by omega) hn2
  have hloT:n*lo≤n*T:=Nat.mul_le_mul_left n hT
  have h1T:n*1≤n*T:=Nat.mul_le_mul_left n hT1
  have hcm:lo*n=n*lo:=Nat.mul_comm _ _
  refine (bCat S g n _ h hc hb hgF hv (by rw[hll];omega) hvF hlin (fun y hy=>by
    rcases List.mem_append.1 hy with hy | hy
    · rw[List.eq_of_mem_replicate hy];exact hcx
    · rw[List.mem_singleton.1 hy];omega) (by rw[hll];omega) (by rw[hll];omega)).mono ?_
  rintro e w6 ⟨r,more2,F2,rfl,g1,g2,g3,g4,g5,g6⟩
  have hsum:=catN_led hcx hz3 lo
  refine ⟨r,more1++more2,F2,rfl,by rw[←List.append_assoc];exact g1,fun b q=>?_,ho.off g3 hlow,by rw[←List.append_assoc];exact g4,by rw[←List.append_assoc];exact g5,?_⟩
  · rcases g2 b q with q | q
    · exact hlow b q
    · exact Or.inr (Nat.le_trans ho.size q)
  · show Wide (ns++(more1++more2)) _ r∧TabR D (ns++(more1++more2)) r _∧(more1++more2).length≤_
    rw[←List.append_assoc]
    have hx2:=hx.up more2
    have hz2:=hz.up more2
    have wx2:=wx.up hc.fine more2 hx
    have wz2:=wz.up hc.fine more2 hz
    refine ⟨wide_catL g6.1 (fun y hy=>?_) ?_ (by omega),tab_led g4 hx2 hz2 g6.1.1 (hf.up hx more2) (hg.up hz more2),?_⟩
    · rcases List.mem_append.1 hy with hy | hy
      · rw[List.eq_of_mem_replicate hy];exact wx2.mono (by omega)
      · rw[List.mem_singleton.1 hy];exact wz2.mono (by omega)
    · have:=catN_led (ns:=(ns++more1)++more2) wx2.1.1 (by rw[kd_up hz];exact hz3) lo
      omega
    · rw[List.length_append]
      have:=g6.2
      omega
theorem tCat1 (S:ArenaMap AA) {w w5:World} {a v:Value} {ns:List Nd} {F:Nat→Prop} {f:List Nat→Tbl} {B0 g n T lo:Nat} {x:Int} (h:AA w5 a ns F) (ho:OffF F w w5) (hc:Canon ns) (hb:BAt w5 g a u) (hgF:¬F g) (hv:IdRow w5 B0 v (List.replicate lo x)) (hvF:∀b,v.ownBlock=some b→¬F b) (hx:isIn ns x) (wx:Wide ns n x) (hf:TabR D ns x f) (hn:1≤n) (hn2:n≤150) (hlo:lo≤20) (hT:lo≤T) (hl1:1≤lo) (hroom:ns.length≤16000) :
    Calls Tryz.prog 55 #[.pointer (some ⟨g,0,none⟩),v] w5 (Grows AA w a ns F fun more r=>Wide (ns++more) (n*T+1) r∧TabR D (ns++more) r (fun l=>ledF (f l) (l.length+1) lo eqF)∧more.length≤lo*n):=by
  have hll:(List.replicate lo x).length=lo:=by simp
  have hcx:=wx.1.1
  have hroom2:lo*n≤20*150:=Nat.mul_le_mul hlo hn2
  have hloT:n*lo≤n*T:=Nat.mul_le_mul_left n hT
  have h1T:n*1≤n*T:=Nat.mul_le_mul_left n (by omega)
  have hcm:lo*n=n*lo:=Nat.mul_comm _ _
  refine (bCat S g n _ h hc hb hgF hv (by rw[hll];omega) hvF (fun y hy=>by rw[List.eq_of_mem_replicate hy];exact hx) (fun y hy=>by rw[List.eq_of_mem_replicate hy];exact hcx) (by rw[hll];omega) (by rw[hll];omega)).mono ?_
  rintro e w6 ⟨r,more2,F2,rfl,g1,g2,g3,g4,g5,g6⟩
  have hsum:=catN_rep hcx lo
  refine ⟨r,more2,F2,rfl,g1,fun b q=>?_,ho.off g3 (fun b q=>Or.inl q),g4,g5,?_⟩
  · rcases g2 b q with q | q
    · exact Or.inl q
    · exact Or.inr (Nat.le_trans ho.size q)
  · have wx2:=wx.up hc.fine more2 hx
    refine ⟨wide_catL g6.1 (fun y hy=>by rw[List.eq_of_mem_replicate hy];exact wx2.mono (by omega)) ?_ (by omega),tab_rep g4 (hx.up more2) g6.1.1 (hf.up hx more2),by have:=g6.2;omega⟩
    have:=catN_rep (ns:=ns++more2) wx2.1.1 lo
    omega
end
end Go.Proofs.YtgmpfnfomgadeaaGreat

/- norm's builder: times, whole. -/
set_option linter.unusedSectionVars false
set_option linter.unusedSimpArgs false
set_option linter.unusedVariables false
set_option maxHeartbeats 16000000
set_option maxRecDepth 100000
namespace Go.Proofs.YtgmpfnfomgadeaaGreat
open Go.RowKit Go.Shelf
variable {D:List Nat→List Nat→Prop} {u:Value}
theorem append_int {w:World} {v:Value} {l:List Int} {B:Nat} (h:IdRow w B v l) (z:Int) (b:Nat) (hz:w.cell? ⟨b,0,none⟩=some (.int .i64 z)) (hl:l.length≤1000) (hB:B≤w.heap.size) :
    ∃v' w',(Builtin.append_ #[73,73] 73 #[v,.slice (some ⟨b,0,none⟩) 1 1]).run Tryz.prog w=.ok v' w'∧IdRow w' B v' (l++[z])∧w.grownBy w' v.ownBlock∧(v'.ownBlock=v.ownBlock∨v'.ownBlock=some w.heap.size):=by
  obtain ⟨i0,hi0,hi1,hi2,hi3⟩:=info_parts info_intR
  obtain ⟨v',w',hr,q2,q3,_,q4⟩:=run_append_own_at (P:=Tryz.prog) w B 73 73 3 i0 _ 1 8 Tryz.underlying73 hi0 hi1 hi2 hi3 rfl (by omega) v l.length (idL l) h ⟨b,0,none⟩ 1 1 [.int .i64 z] rfl (fun j u hu=>by
    match j,hu with
    | 0,hu =>
      injection hu with hu
      subst hu
      exact hz) (fun u hu=>by rw[List.mem_singleton.1 hu];rfl) (by unfold maxLen;omega) (by omega) hB
  refine ⟨v',w',hr,?_,q3,q4⟩
  unfold IdRow idL
  unfold idL at q2
  simpa using q2
theorem wpList_append_by {P:Program} {w:World} {ops:Array Oper} {rest:List Oper} {o:Oper} {a:Act} {Q:Exit→Act→World→Prop} (hgd:o.guard=none) (d s:Operand) (dT sT:TypeId) (ho:o.op=.call {callee:=.builtin .append,args:=#[d,s],argTypes:=#[dT,sT]}) (v1 v2 v':Value) (w':World) (hd:a.eval d=v1) (hs:a.eval s=v2) (hrun:(Builtin.append_ #[dT,sT] o.type #[v1,v2]).run P w=.ok v' w') (h:wpList P ops Q rest (a.put o.dst v') w'):wpList P ops Q (o::rest) a w:=by
  refine wpList_plain hgd fun K hK=>?_
  unfold Oper.wp
  simp[execOp,ho,resolve,invoke,builtin,hd,hs,hrun,Result.andThen]
  exact hK _ _ h
section
variable {AA:World→Value→List Nd→(Nat→Prop)→Prop}
theorem tApp (S:ArenaMap AA) {w w2 w3:World} {a v:Value} {ns more1:List Nd} {F F1:Nat→Prop} {f gz:List Nat→Tbl} {g n T lo c1:Nat} {x z:Int} (hA:AA w a ns F) (hB2:Below w.heap.size w w2) (hw2:w.heap.size+1≤w2.heap.size) (hV:IdRow w2 (w.heap.size+1) v (List.replicate lo x)) (hb:BAt w g a u) (hgF:¬F g) (g1:AA w3 a (ns++more1) F1) (g2:∀b,F1 b→F b∨w2.heap.size≤b) (g3:OffF F w2 w3) (hc0:Canon ns) (hc:Canon (ns++more1)) (hx:isIn ns x) (hz:isIn (ns++more1) z) (wx:Wide ns n x) (wz:Wide (ns++more1) (n+1) z) (hz3:kd (ns++more1) z≠3) (hf:TabR D ns x f) (hg:TabR D (ns++more1) z gz) (hn:1≤n) (hn2:n≤150) (hlo:lo≤20) (hT:lo≤T) (hT1:1≤T) (hm:more1.length≤c1) (hroom:(ns++more1).length≤16000) :
    ∃v' w5,(Builtin.append_ #[73,73] 73 #[v,.slice (some ⟨w3.heap.size,0,none⟩) 1 1]).run Tryz.prog (w3.alloc (.cells #[.int .i64 z] 3))=.ok v' w5∧Calls Tryz.prog 55 #[.pointer (some ⟨g,0,none⟩),v'] w5 (Grows AA w a ns F fun more r=>Wide (ns++more) (n*T+1) r∧TabR D (ns++more) r (fun l=>ledF (f l) (l.length+1) lo (gz l))∧more.length≤c1+lo*n+1):=by
  have hFl:=S.low hA
  have hown:∀b,v.ownBlock=some b→w.heap.size<b∧b<w2.heap.size:=fun b e=>by have:=hV.lt e;omega
  have hvF:∀b,v.ownBlock=some b→¬F b:=fun b e q=>by have:=(hown b e).1;have:=hFl b q;omega
  have hvF1:∀b,v.ownBlock=some b→¬F1 b:=fun b e q=>by
    rcases g2 b q with q | q
    · exact hvF b e q
    · have:=(hown b e).2;omega
  have hlow:∀b,F1 b→F b∨w.heap.size≤b:=fun b q=>by
    rcases g2 b q with q | q
    · exact Or.inl q
    · exact Or.inr (Nat.le_trans hB2.size q)
  have hV3:=hV.off g3 (fun b q e=>hvF b e q)
  have hal:Below w3.heap.size w3 (w3.alloc (.cells #[.int .i64 z] 3)):=(Below.refl _ _).alloc (Nat.le_refl _) _
  have hs2:=hB2.size
  have hs3:=g3.size
  have hlb:=At.lt hb
  obtain ⟨v',w5,hrun,hv5,hgr,hat⟩:=append_int (hV3.next hal) z w3.heap.size ((At.new w3 3 #[.int .i64 z]).cell 0) (by simp;omega) (by
    rw[World.size_alloc]
    omega)
  have ho3:OffF F w w3:=(OffF.of hB2).off g3 (fun b q=>Or.inl q)
  have ho5:OffF F w w5:=(ho3.then hal).grown hgr (fun b e=>Or.inr (by have:=(hown b e).1;omega))
  have hgF1:¬F1 g:=fun q=>by
    rcases hlow _ q with q | q
    · exact hgF q
    · omega
  have hA5:AA w5 a (ns++more1) F1:=S.keep (S.next g1 hal) (fun b q=>hgr.block b (by rw[World.size_alloc];have:=S.low g1 b q;omega) (fun e=>hvF1 b e.symm q))
  refine ⟨v',w5,hrun,tCat S hA5 hlow ho5 hc (hb.off hgF ho5) hgF1 hv5 (fun b e q=>?_) (hx.up more1) hz (wx.up hc0.fine more1 hx) wz hz3 (hf.up hx more1) hg hn hn2 hlo hT hT1 hm hroom⟩
  rcases hat with y | y
  · exact hvF1 b (y.symm.trans e) q
  · rw[y] at e
    injection e with e
    have:=S.low g1 b q
    rw[World.size_alloc] at e
    omega
theorem bTimes (S:ArenaMap AA):TimesIs D AA:=by
  intro w a u ns F f g n x lo hi h hc hb hgF hx wx hf hn hlh hnT hroom
  obtain ⟨lo,rfl⟩:∃m:Nat,lo=(m:Int):=⟨lo.toNat,by omega⟩
  have hT1:1≤(timesS (lo:Int) hi).toNat:=by have:=timesS_ge (lo:Int) hi;omega
  have hn2:n≤150:=by
    have:=Nat.mul_le_mul_left n hT1
    omega
  obtain ⟨w1,hw1⟩:∃w1,w1=w.alloc (.cells #[.int .i64 x] 3):=⟨_,rfl⟩
  have hs1:w1.heap.size=w.heap.size+1:=by rw[hw1];simp
  have hB1:Below w.heap.size w w1:=by rw[hw1];exact (Below.refl _ _).alloc (Nat.le_refl _) _
  have hRp:=bRepeat x lo (by omega) w.heap.size 0 1 w1 (by rw[hw1];exact (At.new w 3 #[.int .i64 x]).cell 0) (by omega)
  have HRp:=Lib.hid hRp
  have HW1:=Lib.hid hw1
  rw[hw1] at HRp
  have hxI:I64 x:=by have:=S.max h;unfold isIn at hx;unfold I64;omega
  obtain ⟨gp,rfl⟩:=S.ptr h
  have HA:=Lib.hid h
  have HC:=Lib.hid hc
  have HBa:=Lib.hid hb
  have HgF:=Lib.hid hgF
  have HX:=Lib.hid hx
  have HWx:=Lib.hid wx
  have HTf:=Lib.hid hf
  have HNn:=Lib.hid hn
  have HN2:=Lib.hid hn2
  have HLh:=Lib.hid hlh
  have HT1:=Lib.hid hT1
  have HNT:=Lib.hid hnT
  have HRoom:=Lib.hid hroom
  have HS1:=Lib.hid hs1
  have HB1:=Lib.hid hB1
  clear h hc hb hgF hx wx hf hn hn2 hT1 hroom hs1 hB1 hw1 hRp hnT
  go_enter Tryz.func60,Tryz.ntmps60
  go_wp2_with fail
  refine HRp.out.mono ?_
  rintro e w2 ⟨v,rfl,hv,hb2⟩
  have hb3:w1.heap.size≤w2.heap.size:=by rw[HW1.out];exact hb2.size
  have hb2:Below w.heap.size w w2:=by
    have h1:Below w1.heap.size w1 w2:=by rw[HW1.out];exact hb2
    exact HB1.out.trans (h1.mono HB1.out.size)
  have hv:IdRow w2 w1.heap.size v (List.replicate lo x):=by rw[HW1.out];exact hv
  have HV:=Lib.hid hv
  have HVb:Hid (IdRow w2 (w.heap.size+1) v (List.replicate lo x)):=Lib.hid (hv.base (by have:=HS1.out;omega))
  have HW2s:Hid (w.heap.size+1≤w2.heap.size):=Lib.hid (by have:=hb3;have:=HS1.out;omega)
  have HB2:=Lib.hid hb2
  have hA2:=S.next HA.out hb2
  have hBt2:BAt w2 g (.pointer (some ⟨gp,0,none⟩)) u:=(hb2.block g (At.lt HBa.out)).trans HBa.out
  have cb:w2.cell? ⟨g,0,none⟩=some (.pointer (some ⟨gp,0,none⟩)):=hBt2.cell 0
  have HOwn:Hid (∀b,v.ownBlock=some b→w.heap.size<b∧b<w2.heap.size):=Lib.hid (fun b e=>by have:=hv.lt e;have:=HS1.out;omega)
  have HvF:Hid (∀b,v.ownBlock=some b→¬F b):=Lib.hid (fun b e z=>by have:=(HOwn.out b e).1;have:=S.low HA.out b z;omega)
  have HBt2:=Lib.hid hBt2
  have HA2:=Lib.hid hA2
  have HgB:Hid (g<w.heap.size):=Lib.hid (At.lt HBa.out)
  have hloz:(0:Int)≤(lo:Int):=by omega
  have hlo20:lo≤20:=by have:=HLh.out;omega
  have hlt:(List.replicate lo x).length=lo:=by simp
  clear hv hb2 hA2 hBt2
  by_cases hh:hi=-1
  · subst hh
    have HSt:=Lib.hid (nStar S.toArenaMid x HA2.out HC.out HX.out (by have:=HRoom.out;omega))
    go_wp2_with fail
    refine HSt.out.mono ?_
    rintro e w3 ⟨z,more1,F1,rfl,g1,g2,g3,g4,g5,g6⟩
    have hT:(timesS (lo:Int) (-1)).toNat=max lo 1:=by rw[times_any (by omega)];simp
    have HTq:=Lib.hid hT
    have hwx1:=HWx.out.up HC.out.fine more1 HX.out
    obtain ⟨v',w5,hrun,hct⟩:=tApp S (T:=max lo 1) (c1:=1) HA.out HB2.out HW2s.out HVb.out HBa.out HgF.out g1 g2 g3 HC.out g4 HX.out g5 HWx.out ((wide_star g4 (HX.out.up more1) g6.1 hwx1 HNn.out).mono (by omega)) (star_no3 g6.1) HTf.out (tab_star g4 (HX.out.up more1) g6.1 (HTf.out.up HX.out more1)) HNn.out HN2.out hlo20 (by omega) (by omega) g6.2 (by rw[List.length_append];have:=HRoom.out;have:=g6.2;omega)
    have HCt:=Lib.hid hct
    have HRun:=Lib.hid hrun
    clear hct hrun hT hwx1 g1 g2 g3 g4 g5 g6
    go_wp2_with (first | (at_builtin;refine wpList_append_by rfl _ _ _ _ rfl _ _ v' w5 rfl rfl HRun.out ?_) | fail)
    refine HCt.out.mono ?_
    rintro e w6 ⟨r,more2,F2,rfl,g1,g2,g3,g4,g5,g6⟩
    have HG:Hid (Grows AA w (.pointer (some ⟨gp,0,none⟩)) ns F (fun more r=>Wide (ns++more) (n*(timesS (lo:Int) (-1)).toNat+1) r∧TabR D (ns++more) r (fun l=>timesT (f l) (l.length+1) (lo:Int).toNat (-1))∧more.length≤3+2*(n*(timesS (lo:Int) (-1)).toNat)+5*(timesS (lo:Int) (-1)).toNat) (.returned (.int .i64 r)) w6):=Lib.hid (by
      rw[HTq.out]
      refine ⟨r,more2,F2,rfl,g1,g2,g3,g4,g5,g6.1,fun l bits hb hl hd=>(g6.2.1 l bits hb hl hd).trans (times_star (f l) (l.length+1) lo),?_⟩
      have h1:=g6.2.2
      have h2:lo*n=n*lo:=Nat.mul_comm _ _
      have h3:n*lo≤n*max lo 1:=Nat.mul_le_mul_left n (by omega)
      omega)
    clear g1 g2 g3 g4 g5 g6
    go_wp2_with fail
    go_ret
    exact HG.out
  · have hh2:(lo:Int)≤hi∧1≤hi∧hi≤20:=by have:=HLh.out;omega
    obtain ⟨hi,rfl⟩:∃m:Nat,hi=(m:Int):=⟨hi.toNat,by omega⟩
    have hhb:=(int_ne hh).1
    by_cases hlt2:lo<hi
    · have hlt3:(lo:Int)<(hi:Int):=by omega
      have hw4:IntKind.i64.wrap ((hi:Int)-(lo:Int))=((hi-lo:Nat):Int):=by rw[IntWalk.i64_left,IntWalk.wrap64_in _ (by omega)];omega
      have hT:(timesS (lo:Int) (hi:Int)).toNat=hi:=by rw[times_to (by omega)];omega
      have h20:(hi-lo)*(2*n+5)≤400:=by
        have h1:(hi-lo)*(2*n+5)≤hi*(2*n+5):=Nat.mul_le_mul_right _ (by omega)
        have h4:hi*(2*n+5)=2*(n*hi)+5*hi:=by rw[Nat.mul_add,Nat.mul_left_comm,Nat.mul_comm hi n,Nat.mul_comm hi 5]
        have h5:=HNT.out
        rw[hT] at h5
        omega
      have HTq:=Lib.hid hT
      have H20:=Lib.hid h20
      clear hT
      have HUp:=Lib.hid (bUpTo S g n (hi-lo) x HA2.out HC.out HBt2.out HgF.out HX.out HWx.out HTf.out HNn.out (by omega) (by
        have:=HRoom.out
        have:=HN2.out
        omega))
      have HLt:=Lib.hid hlt2
      clear h20
      go_wp2_with fail
      refine HUp.out.mono ?_
      rintro e w3 ⟨z,more1,F1,rfl,g1,g2,g3,g4,g5,⟨⟨e0,hup⟩,g6⟩⟩
      have h20:=H20.out
      obtain ⟨v',w5,hrun,hct⟩:=tApp S (T:=hi) (c1:=1+(hi-lo)*(2*n+5)) HA.out HB2.out HW2s.out HVb.out HBa.out HgF.out g1 g2 g3 HC.out g4 HX.out g5 HWx.out hup.wide hup.no3 HTf.out hup.tab HNn.out HN2.out hlo20 (by omega) (by omega) g6 (by rw[List.length_append];have:=HRoom.out;omega)
      have HCt:=Lib.hid hct
      have HRun:=Lib.hid hrun
      clear hct hrun g1 g2 g3 g4 g5 g6 hup h20
      go_wp2_with (first | (at_builtin;refine wpList_append_by rfl _ _ _ _ rfl _ _ v' w5 rfl rfl HRun.out ?_) | fail)
      refine HCt.out.mono ?_
      rintro e w6 ⟨r,more2,F2,rfl,g1,g2,g3,g4,g5,g6⟩
      have HG:Hid (Grows AA w (.pointer (some ⟨gp,0,none⟩)) ns F (fun more r=>Wide (ns++more) (n*(timesS (lo:Int) (hi:Int)).toNat+1) r∧TabR D (ns++more) r (fun l=>timesT (f l) (l.length+1) (lo:Int).toNat (hi:Int))∧more.length≤3+2*(n*(timesS (lo:Int) (hi:Int)).toNat)+5*(timesS (lo:Int) (hi:Int)).toNat) (.returned (.int .i64 r)) w6):=Lib.hid (by
        rw[HTq.out]
        refine ⟨r,more2,F2,rfl,g1,g2,g3,g4,g5,g6.1,fun l bits hb hl hd=>?_,?_⟩
        · have h1:=g6.2.1 l bits hb hl hd
          have h2:=times_out (f l) (l.length+1) lo (hi-lo)
          refine h1.trans ?_
          show Eqv _ _ (if ((hi:Nat):Int)<0 then _ else outF (f l) (l.length+1) lo (((hi:Nat):Int).toNat-lo))
          rw[if_neg (by omega),show ((hi:Nat):Int).toNat-lo=hi-lo by omega]
          exact h2
        · have h1:=g6.2.2
          have h3:(hi-lo)*(2*n+5)+lo*(2*n+5)=hi*(2*n+5):=by rw[←Nat.add_mul];congr 1;have:=HLt.out;omega
          have h4:hi*(2*n+5)=2*(n*hi)+5*hi:=by rw[Nat.mul_add,Nat.mul_left_comm,Nat.mul_comm hi n,Nat.mul_comm hi 5]
          have h5:lo*n≤lo*(2*n+5):=Nat.mul_le_mul_left lo (by omega)
          omega)
      clear g1 g2 g3 g4 g5 g6
      go_wp2_with fail
      go_ret
      exact HG.out
    · obtain rfl:lo=hi:=by omega
      have hlt3:¬(lo:Int)<(lo:Int):=by omega
      have hT:(timesS (lo:Int) (lo:Int)).toNat=lo:=by rw[times_to (by omega)];omega
      have HCt:=Lib.hid (tCat1 S (w:=w) (T:=lo) HA2.out (OffF.of HB2.out) HC.out HBt2.out HgF.out HV.out HvF.out HX.out HWx.out HTf.out HNn.out HN2.out hlo20 (Nat.le_refl _) (by omega) (by have:=HRoom.out;omega))
      have HTq:=Lib.hid hT
      have HLo:Hid (1≤lo):=Lib.hid (by omega)
      clear hT
      go_wp2_with fail
      refine HCt.out.mono ?_
      rintro e w6 ⟨r,more2,F2,rfl,g1,g2,g3,g4,g5,g6⟩
      have HG:Hid (Grows AA w (.pointer (some ⟨gp,0,none⟩)) ns F (fun more r=>Wide (ns++more) (n*(timesS (lo:Int) (lo:Int)).toNat+1) r∧TabR D (ns++more) r (fun l=>timesT (f l) (l.length+1) (lo:Int).toNat (lo:Int))∧more.length≤3+2*(n*(timesS (lo:Int) (lo:Int)).toNat)+5*(timesS (lo:Int) (lo:Int)).toNat) (.returned (.int .i64 r)) w6):=Lib.hid (by
        rw[HTq.out]
        refine ⟨r,more2,F2,rfl,g1,g2,g3,g4,g5,g6.1,fun l bits hb hl hd=>?_,?_⟩
        · have h1:=g6.2.1 l bits hb hl hd
          have h2:=times_out (f l) (l.length+1) lo 0
          refine h1.trans ?_
          show Eqv _ _ (if ((lo:Nat):Int)<0 then _ else outF (f l) (l.length+1) lo (((lo:Nat):Int).toNat-lo))
          rw[if_neg (by omega),show ((lo:Nat):Int).toNat-lo=0 by omega]
          exact h2
        · have:=g6.2.2
          have:lo*n=n*lo:=Nat.mul_comm _ _
          omega)
      clear g1 g2 g3 g4 g5 g6
      go_wp2_with fail
      go_ret
      exact HG.out
end
end Go.Proofs.YtgmpfnfomgadeaaGreat
