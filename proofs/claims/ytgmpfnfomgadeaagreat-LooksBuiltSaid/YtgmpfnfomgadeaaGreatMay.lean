/- Joined: Backward, BackF, NormCat. -/
import Derived.RangeFuncNested
import Derived.RangeFuncBound
import Derived.RangeFuncCalls
import Derived.RangeFuncLeaves
import Derived.Shelf.Abstract
import Derived.WalkKit
import Derived.OwnWalkIn
import Derived.TacticsInMore
import Derived.LoopNIn
import Derived.LoopIn
import Derived.Test.YtgmpfnfomgadeaaGreatMar
import Derived.Test.YtgmpfnfomgadeaaGreatMav
import Derived.Test.YtgmpfnfomgadeaaGreatMax
import Derived.Test.YtgmpfnfomgadeaaGreatMau
/- slices.Backward of whole numbers: what it gives to a loop, from the last one on. -/
set_option linter.unusedSimpArgs false
set_option linter.unusedVariables false
set_option maxHeartbeats 4000000
set_option maxRecDepth 100000
namespace Go.Proofs.YtgmpfnfomgadeaaGreat
open Go.RowKit Go.Shelf
attribute [local go_sem] Oper.semAt_some
abbrev Num:={x:Int // I64 x}
open Classical in
noncomputable def numOf (x:Int):Num:=if h:I64 x then ⟨x,h⟩ else ⟨0,by unfold I64;omega⟩
theorem numOf_is {x:Int} (h:I64 x):(numOf x).1=x:=by unfold numOf;rw[dif_pos h]
noncomputable def backTo (zs:List Int) (k:Nat):List (Nat×Num):=(List.range k).map (fun j=>(zs.length-1-j,numOf (zs[zs.length-1-j]?.getD 0)))
theorem backTo_succ (zs:List Int) (k:Nat):backTo zs (k+1)=backTo zs k++[(zs.length-1-k,numOf (zs[zs.length-1-k]?.getD 0))]:=by simp[backTo,List.range_succ]
theorem backTo_length (zs:List Int) (k:Nat):(backTo zs k).length=k:=by simp[backTo]
def KeepsTwo (b g:Nat) (W W':World):Prop:=W'.heap[b]?=W.heap[b]?∧W'.heap[g]?=W.heap[g]?
theorem KeepsTwo.trans {b g:Nat} {A B C:World} (h:KeepsTwo b g A B) (k:KeepsTwo b g B C):KeepsTwo b g A C:=⟨k.1.trans h.1,k.2.trans h.2⟩
theorem KeepsTwo.refl (b g:Nat) (A:World):KeepsTwo b g A A:=⟨rfl,rfl⟩
theorem back1_in (F:Fence) (n:Nat) (h1:F.fn 86) (hro:F.round=none) (hn:1≤n) (l Bs g cap:Nat) (zs:List Int) (hlen:zs.length≤1000000) (hz:∀j,j<zs.length→I64 (zs[j]?.getD 0)) (J Jx:List (Nat×Num)→World→Prop)
    (hY:∀pre x W,J pre W→pre.length<zs.length→YieldAt F (n-1) Tryz.prog l #[.int .i64 (x.1:Int),.int .i64 x.2.1] W fun e W' =>
      (e=.returned (.bool true)∧J (pre++[x]) W'∧KeepsTwo Bs g W W')∨(e=.returned (.bool false)∧Jx (pre++[x]) W'))
    (W:World) (hBs:W.cell? ⟨Bs,0,none⟩=some (.slice (some ⟨g,0,none⟩) zs.length cap)) (hc:∀j,j<zs.length→W.cell? ⟨g,j,none⟩=some (.int .i64 (zs[j]?.getD 0))) (h0:J [] W) :
    CallsIn F n Tryz.prog 86 #[.func (.yield l) #[] #[],.pointer (some ⟨Bs,0,none⟩)] W fun e W'=>(∃v,e=.returned v) ∧
      ((∃ys,ys=backTo zs zs.length∧J ys W')∨(∃pre,(∃k,k≤zs.length∧pre=backTo zs k)∧Jx pre W')):=by
  refine callsIn_of_wp Tryz.func86 rfl h1 ?_ hro
  simp only[Tryz.ntmps86,List.size_toArray,List.length_cons,List.length_nil,Nat.reduceAdd,Nat.reduceSub,Array.replicate_succ,Array.replicate_zero,List.push_toArray,List.append_toArray,List.nil_append,List.cons_append]
  obtain ⟨p,hp⟩:∃p,p=zs.length:=⟨_,rfl⟩
  rw[←hp] at hBs
  have hw:IntKind.i64.wrap ((p:Int)-1)=(p:Int)-1:=by
    rw[IntWalk.i64_left]
    exact IntWalk.wrap64_in _ (by omega)
  gi_wp2
  gi_loopw [3] (fun i wr=>∃q:Nat,q≤p∧i=.int .i64 ((q:Int)-1)∧J (backTo zs (p-q)) wr∧KeepsTwo Bs g W wr)
    (fun i _=>(intOf i+1).toNat)
  case atStart=>exact ⟨p,Nat.le_refl _,by go_num,by rw[Nat.sub_self];exact h0,KeepsTwo.refl _ _ _⟩
  case round =>
    obtain ⟨q,hq,rfl,hJs,hnx⟩:=hrel
    have hcx:∀j,j<zs.length→wr.cell? ⟨g,j,none⟩=some (.int .i64 (zs[j]?.getD 0)):=fun j hj=>(World.cell?_of_block hnx.2).trans (hc j hj)
    have hbx:wr.cell? ⟨Bs,0,none⟩=some (.slice (some ⟨g,0,none⟩) p cap):=(World.cell?_of_block hnx.1).trans hBs
    cases q with
    | zero =>
      rw[show ((0:Nat):Int)-1=-1 from rfl]
      gi_wp2
      go_end0
      exact ⟨⟨_,rfl⟩,.inl ⟨_,rfl,by rw[Nat.sub_zero,hp] at hJs;exact hJs⟩⟩
    | succ q =>
      rw[show ((q+1:Nat):Int)-1=(q:Int) by omega]
      have hq0:(0:Int)≤(q:Int):=by omega
      have hqp:(q:Int)<(p:Int):=by omega
      have hqw:IntKind.i64.wrap ((q:Int)-1)=(q:Int)-1:=by
        rw[IntWalk.i64_left]
        exact IntWalk.wrap64_in _ (by omega)
      obtain ⟨fn,tmps,assign,body,hy,hR⟩:=hY _ (q,numOf (zs[q]?.getD 0)) wr hJs (by rw[backTo_length];omega)
      dsimp only at hy
      rw[numOf_is (hz q (by omega))] at hy
      have hcx':=hcx q (by omega)
      gi_wp2
      refine hR.mono ?_
      rintro e W3 (⟨rfl,hJ3,hk3⟩ | ⟨rfl,hJx3⟩)
      · gi_wp2
        go_roundw
        case rel=>exact ⟨q,by omega,by go_num,by rw[show p-q=(p-(q+1))+1 by omega,backTo_succ,show zs.length-1-(p-(q+1))=q by omega];exact hJ3,hnx.trans hk3⟩
        case measure=>simp[intOf]<;>omega
      · gi_wp2
        refine bodyPost_ret (results_none rfl _ _ _) rfl ?_
        exact ⟨⟨_,rfl⟩,.inr ⟨_,⟨(p-(q+1))+1,by omega,by rw[backTo_succ,show zs.length-1-(p-(q+1))=q by omega]⟩,hJx3⟩⟩
theorem back_in (F:Fence) (n:Nat) (h1:F.fn 70) (hro:F.round=none) (v:Value) (a:Option Addr) (len cap:Nat) (hv:v=.slice a len cap) (w:World) :
    CallsIn F n Tryz.prog 70 #[v] w fun e w'=>e=.returned (.func (.func 86) #[] #[.pointer (some ⟨w.heap.size,0,none⟩)])∧w'=w.alloc (.cells #[v] 73):=by
  subst hv
  refine callsIn_of_wp Tryz.func70 rfl h1 ?_ hro
  simp only[Tryz.ntmps70,List.size_toArray,List.length_cons,List.length_nil,Nat.reduceAdd,Nat.reduceSub,Array.replicate_succ,Array.replicate_zero,List.push_toArray,List.append_toArray,List.nil_append,List.cons_append]
  gi_wp2
  go_ret
  exact ⟨rfl,rfl⟩
theorem back_stops (F:Fence) (n:Nat) (h1:F.fn 86) (hro:F.round=none) (hn:1≤n) (Bs g cap:Nat) (zs:List Int) (hlen:zs.length≤1000000) (hz:∀j,j<zs.length→I64 (zs[j]?.getD 0)) (w:World) (hB:Bs<w.heap.size) (hg:g<w.heap.size)
    (hBs:w.cell? ⟨Bs,0,none⟩=some (.slice (some ⟨g,0,none⟩) zs.length cap)) (hc:∀j,j<zs.length→w.cell? ⟨g,j,none⟩=some (.int .i64 (zs[j]?.getD 0))) :
    SeqStopsK F n Tryz.prog 86 #[.pointer (some ⟨Bs,0,none⟩)] (fun x:Nat×Num=>#[Value.int .i64 (x.1:Int),Value.int .i64 x.2.1]) (KeepsTwo Bs g) (fun ys=>ys=backTo zs zs.length) (fun pre=>∃k,k≤zs.length∧pre=backTo zs k) zs.length w:=fun l J Jx W hW _ _ hY h0 =>
  back1_in F n h1 hro hn l Bs g cap zs hlen hz J Jx hY W ((hW.cell (p:=⟨Bs,0,none⟩) hB).trans hBs) (fun j hj=>(hW.cell (p:=⟨g,j,none⟩) hg).trans (hc j hj)) h0
end Go.Proofs.YtgmpfnfomgadeaaGreat

/- slices.Backward of whole numbers, told by their places. -/
set_option linter.unusedSimpArgs false
set_option linter.unusedVariables false
set_option maxHeartbeats 4000000
set_option maxRecDepth 100000
namespace Go.Proofs.YtgmpfnfomgadeaaGreat
open Go.RowKit Go.Shelf
attribute [local go_sem] Oper.semAt_some
def zat (zs:List Int) (i:Nat):Int:=zs[i]?.getD 0
def backF (m:Nat):Nat→List (Fin m)
  | 0=>[]
  | k+1=>if h:m-1-k<m then backF m k++[⟨m-1-k,h⟩] else backF m k
theorem backF_succ {m k:Nat} (h:k<m):backF m (k+1)=backF m k++[⟨m-1-k,by omega⟩]:=by
  show (if h:m-1-k<m then backF m k++[⟨m-1-k,h⟩] else backF m k)=_
  rw[dif_pos (by omega)]
theorem backF_length {m:Nat}:∀{k:Nat},k≤m→(backF m k).length=k
  | 0,_=>rfl
  | k+1,h=>by rw[backF_succ (by omega),List.length_append,backF_length (by omega)];rfl
theorem fin_eq {m i j:Nat} {h:i<m} (e:i=j):(⟨i,h⟩:Fin m)=⟨j,e▸h⟩:=by subst e;rfl
theorem back1_f (F:Fence) (n:Nat) (h1:F.fn 86) (hro:F.round=none) (hn:1≤n) (l Bs g cap:Nat) (zs:List Int) (hlen:zs.length≤1000000) (hz:∀j,j<zs.length→I64 (zat zs j)) (J Jx:List (Fin zs.length)→World→Prop)
    (hY:∀pre x W,J pre W→pre.length<zs.length→YieldAt F (n-1) Tryz.prog l #[.int .i64 (x.1:Int),.int .i64 (zat zs x.1)] W fun e W' =>
      (e=.returned (.bool true)∧J (pre++[x]) W'∧KeepsTwo Bs g W W')∨(e=.returned (.bool false)∧Jx (pre++[x]) W'))
    (W:World) (hBs:W.cell? ⟨Bs,0,none⟩=some (.slice (some ⟨g,0,none⟩) zs.length cap)) (hc:∀j,j<zs.length→W.cell? ⟨g,j,none⟩=some (.int .i64 (zat zs j))) (h0:J [] W) :
    CallsIn F n Tryz.prog 86 #[.func (.yield l) #[] #[],.pointer (some ⟨Bs,0,none⟩)] W fun e W'=>(∃v,e=.returned v) ∧
      ((∃ys,ys=backF zs.length zs.length∧J ys W')∨(∃pre,(∃k,k≤zs.length∧pre=backF zs.length k)∧Jx pre W')):=by
  refine callsIn_of_wp Tryz.func86 rfl h1 ?_ hro
  simp only[Tryz.ntmps86,List.size_toArray,List.length_cons,List.length_nil,Nat.reduceAdd,Nat.reduceSub,Array.replicate_succ,Array.replicate_zero,List.push_toArray,List.append_toArray,List.nil_append,List.cons_append]
  obtain ⟨p,hp⟩:∃p,p=zs.length:=⟨_,rfl⟩
  rw[←hp] at hBs
  have hw:IntKind.i64.wrap ((p:Int)-1)=(p:Int)-1:=by
    rw[IntWalk.i64_left]
    exact IntWalk.wrap64_in _ (by omega)
  gi_wp2
  gi_loopw [3] (fun i wr=>∃q:Nat,q≤p∧i=.int .i64 ((q:Int)-1)∧J (backF zs.length (p-q)) wr∧KeepsTwo Bs g W wr)
    (fun i _=>(intOf i+1).toNat)
  case atStart=>exact ⟨p,Nat.le_refl _,by go_num,by rw[Nat.sub_self];exact h0,KeepsTwo.refl _ _ _⟩
  case round =>
    obtain ⟨q,hq,rfl,hJs,hnx⟩:=hrel
    have hcx:∀j,j<zs.length→wr.cell? ⟨g,j,none⟩=some (.int .i64 (zat zs j)):=fun j hj=>(World.cell?_of_block hnx.2).trans (hc j hj)
    have hbx:wr.cell? ⟨Bs,0,none⟩=some (.slice (some ⟨g,0,none⟩) p cap):=(World.cell?_of_block hnx.1).trans hBs
    cases q with
    | zero =>
      rw[show ((0:Nat):Int)-1=-1 from rfl]
      gi_wp2
      go_end0
      exact ⟨⟨_,rfl⟩,.inl ⟨_,rfl,by rw[Nat.sub_zero,hp] at hJs;exact hJs⟩⟩
    | succ q =>
      rw[show ((q+1:Nat):Int)-1=(q:Int) by omega]
      have hq0:(0:Int)≤(q:Int):=by omega
      have hqp:(q:Int)<(p:Int):=by omega
      have hqw:IntKind.i64.wrap ((q:Int)-1)=(q:Int)-1:=by
        rw[IntWalk.i64_left]
        exact IntWalk.wrap64_in _ (by omega)
      obtain ⟨fn,tmps,assign,body,hy,hR⟩:=hY _ ⟨q,by omega⟩ wr hJs (by rw[backF_length (by omega)];omega)
      dsimp only at hy
      have hcx':=hcx q (by omega)
      gi_wp2
      refine hR.mono ?_
      rintro e W3 (⟨rfl,hJ3,hk3⟩ | ⟨rfl,hJx3⟩)
      · gi_wp2
        go_roundw
        case rel=>exact ⟨q,by omega,by go_num,by rw[show p-q=(p-(q+1))+1 by omega,backF_succ (by omega),fin_eq (show zs.length-1-(p-(q+1))=q by omega)];exact hJ3,hnx.trans hk3⟩
        case measure=>simp[intOf]<;>omega
      · gi_wp2
        refine bodyPost_ret (results_none rfl _ _ _) rfl ?_
        exact ⟨⟨_,rfl⟩,.inr ⟨_,⟨(p-(q+1))+1,by omega,by rw[backF_succ (by omega),fin_eq (show zs.length-1-(p-(q+1))=q by omega)]⟩,hJx3⟩⟩
theorem back_stopsF (F:Fence) (n:Nat) (h1:F.fn 86) (hro:F.round=none) (hn:1≤n) (Bs g cap:Nat) (zs:List Int) (hlen:zs.length≤1000000) (hz:∀j,j<zs.length→I64 (zat zs j)) (w:World) (hB:Bs<w.heap.size) (hg:g<w.heap.size)
    (hBs:w.cell? ⟨Bs,0,none⟩=some (.slice (some ⟨g,0,none⟩) zs.length cap)) (hc:∀j,j<zs.length→w.cell? ⟨g,j,none⟩=some (.int .i64 (zat zs j))) :
    SeqStopsK F n Tryz.prog 86 #[.pointer (some ⟨Bs,0,none⟩)] (fun x:Fin zs.length=>#[Value.int .i64 (x.1:Int),Value.int .i64 (zat zs x.1)]) (KeepsTwo Bs g) (fun ys=>ys=backF zs.length zs.length) (fun pre=>∃k,k≤zs.length∧pre=backF zs.length k) zs.length w:=fun l J Jx W hW _ _ hY h0 =>
  back1_f F n h1 hro hn l Bs g cap zs hlen hz J Jx hY W ((hW.cell (p:=⟨Bs,0,none⟩) hB).trans hBs) (fun j hj=>(hW.cell (p:=⟨g,j,none⟩) hg).trans (hc j hj)) h0
end Go.Proofs.YtgmpfnfomgadeaaGreat

/- norm.Cat: one behind the other, by recursion over the number of the first one. -/
set_option linter.unusedSimpArgs false
set_option linter.unusedVariables false
set_option maxHeartbeats 16000000
set_option maxRecDepth 100000
namespace Go.Proofs.YtgmpfnfomgadeaaGreat
open Go.RowKit
section
variable {AA:World→Value→List Nd→(Nat→Prop)→Prop}
def AheadIs (AA:World→Value→List Nd→(Nat→Prop)→Prop) (n:Nat):Prop:=∀(x y:Int) {w:World} {a:Value} {ns:List Nd} {F:Nat→Prop} (g:Nat),x.toNat≤n→AA w a ns F→Canon ns→isIn ns x→isIn ns y→kd ns y≠0→kd ns y≠1→At w g 126 #[a,.map none]→¬F g→ns.length+catN ns x+4≤20000 →
  Calls Tryz.prog 88 #[.pointer (some ⟨g,0,none⟩),.int .i64 x,.int .i64 y] w (Grows AA w a ns F (CatG ns x y))
theorem nCatAhead (S:ArenaMid AA) (n:Nat) (IH:AheadIs AA n) (x y:Int) (u:Nd) {w:World} {a:Value} {ns:List Nd} {F:Nat→Prop} (g:Nat) (hn:x.toNat≤n+1) (h:AA w a ns F) (hc:Canon ns) (hx:isIn ns x) (hy:isIn ns y) (y0:kd ns y≠0) (y1:kd ns y≠1) (hg:At w g 126 #[a,.map none]) (hF:¬F g) (hroom:ns.length+catN ns x+4≤20000) (k3:kd ns x=3) (hu:u=ndAt ns x.toNat) :
    Calls Tryz.prog 94 #[.pointer (some ⟨g,0,none⟩),.int .i64 x,.agg u.cs.toArray,.int .i64 y] w (Grows AA w a ns F (CatG ns x y)):=by
  have hmx:=S.max h
  have hxI:I64 x:=by unfold isIn at hx;unfold I64;omega
  have hyI:I64 y:=by unfold isIn at hy;unfold I64;omega
  obtain ⟨⟨ia,la⟩,ib,lb⟩:=in_two hc.fine hx (Or.inl k3)
  have HKa:Hid (ka ns x=u.a):=Lib.hid (by unfold ka;rw[hu])
  have HKb:Hid (kb ns x=u.b):=Lib.hid (by unfold kb;rw[hu])
  have HFl:Hid (∀b,F b→b<w.heap.size):=Lib.hid (S.low h)
  obtain ⟨⟨ka0,ka1,ka3⟩,kb0,kb1⟩:=hc.cat x hx k3
  have HCn:Hid (catN ns x=1+catN ns (kb ns x)):=Lib.hid (by
    obtain ⟨p,l,hpl⟩:=cat_parts hc _ _ (Nat.le_refl _) ib kb0 kb1
    unfold catN
    rw[cat_node hc.fine hx k3,hpl]
    simp
    omega)
  have HCa:Hid (∀more,catN (ns++more) (ka ns x)=1):=Lib.hid (fun more=>by
    unfold catN
    rw[catV_up hc.fine more ia,cat_leaf ka0 ka1 ka3];rfl)
  have HIa:=Lib.hid ia
  have HIb:=Lib.hid ib
  have HNa:Hid ((ka ns x).toNat≤n∧(kb ns x).toNat≤n):=Lib.hid (by
    have h1:=ia;have h2:=ib;unfold isIn at h1 h2;omega)
  have HX:=Lib.hid hx
  have HY:=Lib.hid hy
  have HY0:=Lib.hid y0
  have HY1:=Lib.hid y1
  have HC:=Lib.hid hc
  have HF:=Lib.hid hF
  have HRoom:=Lib.hid hroom
  have HK3:=Lib.hid k3
  have HB0:Hid (Below w.heap.size w (w.alloc (.cells u.cs.toArray 61))):=Lib.hid ((Below.refl _ _).alloc (Nat.le_refl _) _)
  have HA0:=Lib.hid h
  have hgl:=hg.lt
  have hG:=hg.alloc (.cells u.cs.toArray 61)
  have hU:=At.new w 61 u.cs.toArray
  have c0:(w.alloc (.cells u.cs.toArray 61)).cell? ⟨g,0,none⟩=some a:=hG.cell 0
  have c1:(w.alloc (.cells u.cs.toArray 61)).cell? ⟨g,1,none⟩=some (.map none):=hG.cell 1
  have hlk:=fun w=>look_no w hxI
  have HIH:=Lib.hid IH
  clear IH hn h hc hx hy y0 y1 hg hF hroom k3 hu ia la ib lb ka0 ka1 ka3 kb0 kb1
  obtain ⟨gp,rfl⟩:=S.ptr HA0.out
  have hu5:u.cs[5]?=some (.int .i64 u.a):=rfl
  have hu6:u.cs[6]?=some (.int .i64 u.b):=rfl
  obtain ⟨W2,hW2⟩:∃W2,W2=(w.alloc (.cells u.cs.toArray 61)).alloc (.cells #[] 100):=⟨_,rfl⟩
  have HB2:Hid (Below w.heap.size w W2):=Lib.hid (by rw[hW2];exact HB0.out.alloc (by simp) _)
  have HA2:=Lib.hid (S.next HA0.out HB2.out)
  have HG2:Hid (At W2 g 126 #[.pointer (some ⟨gp,0,none⟩),.map none]):=Lib.hid (by rw[hW2];exact hG.alloc _)
  have HU2:Hid (At W2 w.heap.size 61 u.cs.toArray):=Lib.hid (by rw[hW2];exact hU.alloc _)
  have HI1:=Lib.hid (HIH.out (kb ns x) y g HNa.out.2 HA2.out HC.out HIb.out HY.out HY0.out HY1.out HG2.out HF.out (by have:=HRoom.out;have:=HCn.out;omega))
  have HW2:=Lib.hid hW2
  rw[hW2,HKb.out] at HI1
  clear hW2
  go_enter Tryz.func94,Tryz.ntmps94
  go_wp2_with fail
  refine HI1.out.mono ?_
  rw[←HW2.out,←HKb.out]
  rintro e w6 ⟨q,more1,F1,rfl,g1,g2,g3,g4,g5,g6⟩
  have HG6:Hid (At w6 g 126 #[.pointer (some ⟨gp,0,none⟩),.map none]):=Lib.hid ((g3.block _ HG2.out.lt (fun z=>HF.out z)).trans HG2.out)
  have HU6:Hid (At w6 w.heap.size 61 u.cs.toArray):=Lib.hid ((g3.block _ HU2.out.lt (fun z=>by have:=HFl.out _ z;omega)).trans HU2.out)
  have HO6:Hid (OffF F w w6):=Lib.hid ((OffF.of HB2.out).off g3 (fun b z=>Or.inl z))
  have HF1:Hid (¬F1 g):=Lib.hid (fun z=>by
    rcases g2 _ z with z | z
    · exact HF.out z
    · have:=HB2.out.size;omega)
  have HFl1:Hid (∀b,F1 b→F b∨w.heap.size<b):=Lib.hid (fun b z=>by
    rcases g2 b z with z | z
    · exact Or.inl z
    · have h2:=HW2.out;rw[h2] at z;simp at z;exact Or.inr (by omega))
  obtain ⟨q0,q1⟩:=cat_kb HC.out HX.out HY.out HK3.out HIb.out HY0.out HY1.out g6.1
  have HQ0:=Lib.hid q0
  have HQ1:=Lib.hid q1
  have HR1:Hid ((ns++more1).length+1+4≤20000):=Lib.hid (by have:=HRoom.out;have h1:=HCn.out;have h2:=g6.2.1;rw[List.length_append];omega)
  have HKn:=Lib.hid (nKind S q g1 g5)
  have hqn:¬q<0:=by unfold isIn at g5;omega
  have hqd:decide (q<0)=false:=decide_eq_false hqn
  have H1:=Lib.hid g1
  have H2:=Lib.hid g2
  have H4:=Lib.hid g4
  have H5:=Lib.hid g5
  have H6:=Lib.hid g6
  clear g1 g2 g3 g4 g5 g6 q0 q1 c0 c1 hG hU
  have c0:=HG6.out.cell 0
  have c1:=HG6.out.cell 1
  obtain ⟨u0,u1,u2,u3,u4,u5,u6,u7⟩:=Nd.cells HU6.out
  go_wp2_with fail
  refine HKn.out.mono ?_
  rintro e w7 ⟨rfl,hb7⟩
  have HA7:=Lib.hid (S.next H1.out hb7)
  have HG7:Hid (At w7 g 126 #[.pointer (some ⟨gp,0,none⟩),.map none]):=Lib.hid ((hb7.block _ HG6.out.lt).trans HG6.out)
  have HU7:Hid (At w7 w.heap.size 61 u.cs.toArray):=Lib.hid ((hb7.block _ HU6.out.lt).trans HU6.out)
  have HO7:Hid (OffF F w w7):=Lib.hid (HO6.out.then hb7)
  have HS7:Hid (w6.heap.size≤w7.heap.size):=Lib.hid hb7.size
  have HB7:=Lib.hid hb7
  have hq0b:(kd (ns++more1) q==0)=false:=(int_ne HQ0.out).1
  have HI2:=Lib.hid (HIH.out (ka ns x) q g HNa.out.1 HA7.out H4.out (HIa.out.up more1) H5.out HQ0.out HQ1.out HG7.out HF1.out (by have:=HR1.out;have:=HCa.out more1;omega))
  clear hb7 c0 c1 u0 u1 u2 u3 u4 u5 u6 u7
  have c0:=HG7.out.cell 0
  have c1:=HG7.out.cell 1
  obtain ⟨u0,u1,u2,u3,u4,u5,u6,u7⟩:=Nd.cells HU7.out
  rw[←HKa.out] at u5
  go_wp2_with fail
  refine HI2.out.mono ?_
  rintro e w8 ⟨r,more2,F2,rfl,k1,k2,k3,k4,k5,k6⟩
  have HG:Hid (Grows AA w (.pointer (some ⟨gp,0,none⟩)) ns F (CatG ns x y) (.returned (.int .i64 r)) w8):=Lib.hid (cat_both S HC.out HX.out HY.out HIa.out HIb.out HK3.out HY0.out HY1.out HB2.out H1.out H2.out HO6.out H4.out H5.out H6.out k1 (fun b z=>by
    rcases k2 b z with z | z
    · exact Or.inl z
    · exact Or.inr (Nat.le_trans HS7.out z)) ((OffF.of (show Below w6.heap.size w6 w7 from HB7.out)).off k3 (fun b z=>Or.inl z)) k4 k5 k6)
  have hrn:r≠y:=by
    obtain ⟨r',more,F',e,_,_,_,_,_,hR⟩:=HG.out
    injection e with e
    injection e with _ e
    subst e
    exact (cat_ne HC.out HX.out HY.out HK3.out HY0.out HY1.out hR.1).1
  have hrb:=(int_ne hrn).1
  clear k1 k2 k3 k4 k5 k6 hrn
  go_wp2_with fail
  go_ret
  exact HG.out
theorem nAheadOf (S:ArenaMid AA) (n:Nat) (hIH:Hid (∀m,m+1=n→AheadIs AA m)):AheadIs AA n:=by
    intro x y w a ns F g hn h hc hx hy y0 y1 hg hF hroom
    have hmx:=S.max h
    have hxI:I64 x:=by unfold isIn at hx;unfold I64;omega
    have hyI:I64 y:=by unfold isIn at hy;unfold I64;omega
    have HN:=Lib.hid (S.nodeIn x h hxI)
    have HA:=Lib.hid h
    have HX:=Lib.hid hx
    have HY:=Lib.hid hy
    have HY0:=Lib.hid y0
    have HY1:=Lib.hid y1
    have HC:=Lib.hid hc
    have HF:=Lib.hid hF
    have HRoom:=Lib.hid hroom
    have HNn:=Lib.hid hn
    have HG:=Lib.hid hg
    have hdx:decide (0≤x∧x<(ns.length:Int))=true:=decide_eq_true hx
    obtain ⟨gp,rfl⟩:=S.ptr HA.out
    have c0:=HG.out.cell 0
    clear h hc hx hy y0 y1 hF hroom hn hg
    go_enter Tryz.func88,Tryz.ntmps88
    go_wp2_with fail
    refine HN.out.mono ?_
    rintro e w1 ⟨u,rfl,hu,hb1⟩
    have hu:=hu HX.out
    rw[hdx]
    have HU:=Lib.hid hu
    have HKx:Hid (kd ns x=u.kind):=Lib.hid (by unfold kd;rw[←hu])
    have HBb:=Lib.hid (hb1.trans ((boxN_next w1 u).mono hb1.size))
    have HXb:=Lib.hid (boxN_at w1 u)
    have HAb:=Lib.hid (S.next HA.out HBb.out)
    have HGb:Hid (At (boxN w1 u) g 126 #[.pointer (some ⟨gp,0,none⟩),.map none]):=Lib.hid ((HBb.out.block _ HG.out.lt).trans HG.out)
    have ck:=(Nd.cells HXb.out).1
    clear hu hb1 hdx c0
    have c0:=HGb.out.cell 0
    by_cases x0:u.kind=0
    · have HE:Hid (kd ns x=0):=Lib.hid (by rw[HKx.out];exact x0)
      rw[x0] at ck
      clear x0
      go_wp2_with (first
      | (with_reducible show wpList _ _ _ (⟨none,.store _ _ _,_,_,_,_⟩::_) _ _
         refine wpList_store_row rfl 61 _ _ rfl w1.heap.size u.cs.toArray rfl rfl 61 Nd.zero.cs.toArray (At.new _ _ _) (by kernel_rfl) rfl (Nd.one u) ?_
         first | change wpList _ _ _ _ _ (boxN w1 u) | change Exit.then _ _ _ _ (boxN w1 u))
      | fail)
      go_ret
      exact Grows.stay S HA.out HC.out HBb.out HX.out ⟨⟨by rw[List.append_nil];exact HX.out,by rw[List.append_nil,cat_none HE.out];first | (cases catV ns y<;>rfl) | (cases catV ns x<;>simp[catJ])⟩,Nat.zero_le _,fun _=>rfl⟩
    have HKx0:Hid (kd ns x≠0):=Lib.hid (by rw[HKx.out];exact x0)
    have x0b:=(int_ne x0).1
    clear x0
    by_cases x1:u.kind=1
    · have HE:Hid (kd ns x=1):=Lib.hid (by rw[HKx.out];exact x1)
      rw[x1] at ck x0b
      clear x1 x0b
      go_wp2_with (first
      | (with_reducible show wpList _ _ _ (⟨none,.store _ _ _,_,_,_,_⟩::_) _ _
         refine wpList_store_row rfl 61 _ _ rfl w1.heap.size u.cs.toArray rfl rfl 61 Nd.zero.cs.toArray (At.new _ _ _) (by kernel_rfl) rfl (Nd.one u) ?_
         first | change wpList _ _ _ _ _ (boxN w1 u) | change Exit.then _ _ _ _ (boxN w1 u))
      | fail)
      go_ret
      exact Grows.stay S HA.out HC.out HBb.out HY.out ⟨⟨by rw[List.append_nil];exact HY.out,by rw[List.append_nil,cat_empty HE.out];first | (cases catV ns y<;>rfl) | (cases catV ns y<;>simp[catJ])⟩,Nat.zero_le _,fun _=>rfl⟩
    have HKx1:Hid (kd ns x≠1):=Lib.hid (by rw[HKx.out];exact x1)
    have x1b:=(int_ne x1).1
    clear x1
    by_cases x3:u.kind=3
    · have HKx3:Hid (kd ns x=3):=Lib.hid (by rw[HKx.out];exact x3)
      have hcl:u.cs.length=8:=rfl
      have HCA:Hid (Calls Tryz.prog 94 #[.pointer (some ⟨g,0,none⟩),.int .i64 x,.agg u.cs.toArray,.int .i64 y] (boxN w1 u) (Grows AA (boxN w1 u) (.pointer (some ⟨gp,0,none⟩)) ns F (CatG ns x y))):=Lib.hid (by
        obtain ⟨⟨ia,la⟩,_⟩:=in_two HC.out.fine HX.out (Or.inl HKx3.out)
        have h1:=HNn.out
        have h2:=HX.out
        unfold isIn at ia h2
        obtain ⟨m,hm⟩:∃m,n=m+1:=⟨n-1,by omega⟩
        exact nCatAhead S m (hIH.out m hm.symm) x y u g (by omega) HAb.out HC.out HX.out HY.out HY0.out HY1.out HGb.out HF.out HRoom.out HKx3.out HU.out)
      rw[x3] at ck x0b x1b
      clear x3 x0b x1b
      go_wp2_with (first
        | (with_reducible show wpList _ _ _ (⟨none,.store _ _ _,_,_,_,_⟩::_) _ _
           refine wpList_store_row rfl 61 _ _ rfl w1.heap.size u.cs.toArray rfl rfl 61 Nd.zero.cs.toArray (At.new _ _ _) (by kernel_rfl) rfl (Nd.one u) ?_
           first | change wpList _ _ _ _ _ (boxN w1 u) | change Exit.then _ _ _ _ (boxN w1 u))
        | (with_reducible show wpList _ _ _ (⟨_,.load 61 (.tmp 7),_,_,_,_⟩::_) _ _
           refine wpList_load_row_want (by rfl) 61 _ rfl w1.heap.size rfl 61 u.cs.toArray (0,0) _ HXb.out Tryz.underlying61 rfl (by rw[List.size_toArray,Nd.cs_length];kernel_rfl) ?_)
        | fail)
      refine HCA.out.mono ?_
      rintro e w5 gr
      obtain ⟨r,_,_,rfl,_⟩:=id gr
      have HGr:=Lib.hid (gr.from HBb.out)
      clear gr
      go_wp2_with fail
      go_ret
      exact HGr.out
    · have HKx3:Hid (kd ns x≠3):=Lib.hid (by rw[HKx.out];exact x3)
      have x3b:=(int_ne x3).1
      clear x3
      have HP:=Lib.hid (nPut S ⟨3,noSt,x,y,false⟩ HAb.out HC.out (fit_small _ _ _ _ (by unfold I64;omega) hxI hyI) (two_right' (Or.inl rfl) HX.out HY.out) (fits_cat ⟨HKx0.out,HKx1.out,HKx3.out⟩ HY0.out HY1.out) (by have:=HRoom.out;omega))
      go_wp2_with (first
      | (with_reducible show wpList _ _ _ (⟨none,.store _ _ _,_,_,_,_⟩::_) _ _
         refine wpList_store_row rfl 61 _ _ rfl w1.heap.size u.cs.toArray rfl rfl 61 Nd.zero.cs.toArray (At.new _ _ _) (by kernel_rfl) rfl (Nd.one u) ?_
         first | change wpList _ _ _ _ _ (boxN w1 u) | change Exit.then _ _ _ _ (boxN w1 u))
      | fail)
      refine HP.out.mono ?_
      rintro e w5 gr
      obtain ⟨r,_,_,rfl,_⟩:=id gr
      have HGr:Hid (Grows AA w (.pointer (some ⟨gp,0,none⟩)) ns F (CatG ns x y) (.returned (.int .i64 r)) w5):=Lib.hid (by
        obtain ⟨r',more,F',g0,g1,g2,g3,g4,g5,g6⟩:=gr.from HBb.out
        obtain ⟨q1,q2⟩:=cat_end HC.out g4 HX.out HY.out HKx0.out HKx1.out HKx3.out HY0.out HY1.out g5 g6.1 g6.2.2
        refine ⟨r',more,F',g0,g1,g2,g3,g4,g5,q1,?_,q2⟩
        have:catN ns x=1:=by unfold catN;rw[cat_leaf HKx0.out HKx1.out HKx3.out];rfl
        have:=g6.2.1
        omega)
      clear gr
      go_wp2_with fail
      go_ret
      exact HGr.out
theorem nAhead (S:ArenaMid AA):∀n:Nat,AheadIs AA n
  | 0=>nAheadOf S 0 (Lib.hid (fun m h=>absurd h (Nat.succ_ne_zero m)))
  | n+1=>nAheadOf S (n+1) (Lib.hid (fun m h=>(Nat.succ.inj h).symm▸nAhead S n))
theorem nCat (S:ArenaMid AA) (x y:Int) {w:World} {a:Value} {ns:List Nd} {F:Nat→Prop} (h:AA w a ns F) (hc:Canon ns) (hx:isIn ns x) (hy:isIn ns y) (hroom:ns.length+catN ns x+4≤20000) :
    Calls Tryz.prog 71 #[a,.int .i64 x,.int .i64 y] w (Grows AA w a ns F (CatG ns x y)):=by
  have hmx:=S.max h
  have hxI:I64 x:=by unfold isIn at hx;unfold I64;omega
  have hyI:I64 y:=by unfold isIn at hy;unfold I64;omega
  have HX:=Lib.hid hx
  have HY:=Lib.hid hy
  have HC:=Lib.hid hc
  have HRoom:=Lib.hid hroom
  have HB:Hid (Below w.heap.size w (w.alloc (.cells #[.int .i64 x,.int .i64 y] 3))):=Lib.hid ((Below.refl _ _).alloc (Nat.le_refl _) _)
  have HA0:=Lib.hid h
  have HA:=Lib.hid (S.next h HB.out)
  have HT:Hid (Calls Tryz.prog 72 #[a,.slice (some ⟨w.heap.size,0,none⟩) 2 2] (w.alloc (.cells #[.int .i64 x,.int .i64 y] 3)) fun e w'=>e=.returned (.bool true)∧w'=w.alloc (.cells #[.int .i64 x,.int .i64 y] 3)):=Lib.hid (nThere S [x,y] HA.out (list_two _ _ _ _) (by simp) (fun z hz=>by simp at hz;rcases hz with rfl | rfl;exact hx;exact hy))
  have HKy:=Lib.hid (nKind S y HA.out hy)
  obtain ⟨gp,rfl⟩:=S.ptr h
  clear h hc hx hy hroom
  go_enter Tryz.func71,Tryz.ntmps71
  go_wp2_with fail
  refine HT.out.mono ?_
  rintro e w1 ⟨rfl,rfl⟩
  go_wp2_with fail
  refine HKy.out.mono ?_
  rintro e w1 ⟨rfl,hb1⟩
  have HB1:=Lib.hid (HB.out.trans (hb1.mono HB.out.size))
  have HA1:=Lib.hid (S.next HA.out hb1)
  clear hb1
  by_cases y1:kd ns y=1
  · have hyb:(kd ns y==1)=true:=by rw[y1];rfl
    have HE:=Lib.hid y1
    clear y1
    go_wp2_with fail
    go_ret
    exact Grows.stay S HA0.out HC.out HB1.out HX.out ⟨⟨by rw[List.append_nil];exact HX.out,by rw[List.append_nil,cat_empty HE.out];cases catV ns x<;>simp[catJ]⟩,Nat.zero_le _,fun _=>rfl⟩
  have HY1:=Lib.hid y1
  have y1b:=(int_ne y1).1
  have HKy2:=Lib.hid (nKind S y HA1.out HY.out)
  clear y1
  go_wp2_with fail
  refine HKy2.out.mono ?_
  rintro e w2 ⟨rfl,hb2⟩
  have HB2:=Lib.hid (HB1.out.trans (hb2.mono HB1.out.size))
  have HA2:=Lib.hid (S.next HA1.out hb2)
  clear hb2
  by_cases y0:kd ns y=0
  · have hyb:(kd ns y==0)=true:=by rw[y0];rfl
    have HE:=Lib.hid y0
    clear y0
    go_wp2_with fail
    go_ret
    exact Grows.stay S HA0.out HC.out HB2.out HY.out ⟨⟨by rw[List.append_nil];exact HY.out,by rw[List.append_nil,cat_none HE.out];cases catV ns x<;>rfl⟩,Nat.zero_le _,fun _=>rfl⟩
  have HY0:=Lib.hid y0
  have y0b:=(int_ne y0).1
  clear y0
  obtain ⟨w3,hw3⟩:∃w3,w3=w2.alloc (.cells #[.pointer (some ⟨gp,0,none⟩),.map none] 126):=⟨_,rfl⟩
  have HB3:Hid (Below w.heap.size w w3):=Lib.hid (by rw[hw3];exact HB2.out.alloc HB2.out.size _)
  have HA3:=Lib.hid (S.next HA0.out HB3.out)
  have HG3:Hid (At w3 w2.heap.size 126 #[.pointer (some ⟨gp,0,none⟩),.map none]):=Lib.hid (by rw[hw3];exact At.new _ _ _)
  have HI:=Lib.hid (nAhead S x.toNat x y w2.heap.size (Nat.le_refl _) HA3.out HC.out HX.out HY.out HY0.out HY1.out HG3.out (fun z=>by have:=S.low HA2.out _ z;omega) HRoom.out)
  have HW3:=Lib.hid hw3
  rw[hw3] at HI
  clear hw3
  go_wp2_with fail
  refine HI.out.mono ?_
  rw[←HW3.out]
  rintro e w5 gr
  obtain ⟨r,_,_,rfl,_⟩:=id gr
  have HGr:=Lib.hid (gr.from HB3.out)
  clear gr
  go_wp2_with fail
  go_ret
  exact HGr.out
end
end Go.Proofs.YtgmpfnfomgadeaaGreat
