/- Joined: ArenaFormed, ArenaPut, ArenaMid, ArenaBigIs, ArenaMapIs, NormLen, NormAwake, NormStep, NormPut. -/
import Derived.Test.YtdmodhnhldbpnaaGreatMah
import Derived.Test.YtdmodhnhldbpnaaGreatArenaAdd
import Derived.Test.YtdmodhnhldbpnaaGreatMaf
import Derived.Test.YtdmodhnhldbpnaaGreatMag
import Derived.Test.YtdmodhnhldbpnaaGreatAid
/- (*arena.Arena).formed: may a node be put behind so many? -/
set_option linter.unusedSimpArgs false
set_option linter.unusedVariables false
set_option maxHeartbeats 16000000
set_option maxRecDepth 100000
set_option linter.unusedSectionVars false
namespace Go.Proofs.YtdmodhnhldbpnaaGreat
section
open Go.RowKit Go.Maps
theorem aFormedOf (a:Value) (n:Nat) (x:Nd) (w:World) (hhas:∀(i:Int) (w':World),Below w.heap.size w w'->Calls Tryz.prog 63 #[a,.int .i64 i] w' fun e w2=>e=.returned (.bool (aIn i n))/\w2=w') :
  Calls Tryz.prog 58 #[a,.agg x.cs.toArray] w fun e w'=>e=.returned (.bool (x.right n))/\Below w.heap.size w w':=by
 have HH:=zqh hhas
 clear hhas
 have HA:Hid (At (w.alloc (.cells x.cs.toArray 61)) w.heap.size 61 x.cs.toArray):=zqh (At.new _ _ _)
 have HB:Hid (Below w.heap.size w (w.alloc (.cells x.cs.toArray 61))):=zqh (zqb)
 obtain ⟨c0,c1,c2,c3,c4,c5,c6,c7⟩:=Nd.cells HA.out
 by_cases hk0:x.kind=0
 ·have HKd:=zqh hk0
  rw[hk0] at c0
  clear hk0
  have HV:Hid (x.right n=x.eqb ⟨0,zbn,0,0,false⟩):=zqh (by unfold Nd.right Nd.bare;simp[HKd.out])
  obtain ⟨v,hv⟩:∃v,x.eqb ⟨0,zbn,0,0,false⟩=v:=⟨_,rfl⟩
  have HVv:=zqh hv
  have hq:∀W,(Op.equalIn 10000 61 (.agg x.cs.toArray) (.agg #[.int .i64 0,.int .u64 0,.int .u64 0,.int .u64 0,.int .u64 0,.int .i64 0,.int .i64 0,.bool false])).run Tryz.prog W=.ok v W:=fun W=>zo3 W x ⟨0,zbn,0,0,false⟩ v hv
  clear hv
  go_enter Tryz.func58,Tryz.ntmps58
  go_wp2_with (first
   |(with_reducible show wpList _ _ _ (⟨some 10,.load _ _,_,_,_,_⟩::_) _ _
     refine zaa (by rfl) 61 _ rfl w.heap.size rfl 61 x.cs.toArray (0,0) _ HA.out Tryz.underlying61 rfl (by rw[qO,Nd.cs_length];kernel_rfl) ?_)
   | fail)
  go_ret
  exact ⟨by rw[HV.out,HVv.out];rfl,HB.out⟩
 by_cases hk1:x.kind=1
 ·have HKd:=zqh hk1
  rw[hk1] at c0
  clear hk1
  have HV:Hid (x.right n=x.eqb ⟨1,zbn,0,0,false⟩):=zqh (by unfold Nd.right Nd.bare;simp[HKd.out])
  obtain ⟨v,hv⟩:∃v,x.eqb ⟨1,zbn,0,0,false⟩=v:=⟨_,rfl⟩
  have HVv:=zqh hv
  have hq:∀W,(Op.equalIn 10000 61 (.agg x.cs.toArray) (.agg #[.int .i64 1,.int .u64 0,.int .u64 0,.int .u64 0,.int .u64 0,.int .i64 0,.int .i64 0,.bool false])).run Tryz.prog W=.ok v W:=fun W=>zo3 W x ⟨1,zbn,0,0,false⟩ v hv
  clear hv
  go_enter Tryz.func58,Tryz.ntmps58
  go_wp2_with (first
   |(with_reducible show wpList _ _ _ (⟨some 10,.load _ _,_,_,_,_⟩::_) _ _
     refine zaa (by rfl) 61 _ rfl w.heap.size rfl 61 x.cs.toArray (0,0) _ HA.out Tryz.underlying61 rfl (by rw[qO,Nd.cs_length];kernel_rfl) ?_)
   | fail)
  go_ret
  exact ⟨by rw[HV.out,HVv.out];rfl,HB.out⟩
 by_cases hk2:x.kind=2
 ·have HKd:=zqh hk2
  rw[hk2] at c0
  clear hk2
  have HV:Hid (x.right n=x.eqb ⟨2,x.set,0,0,false⟩):=zqh (by unfold Nd.right Nd.bare;simp[HKd.out])
  obtain ⟨v,hv⟩:∃v,x.eqb ⟨2,x.set,0,0,false⟩=v:=⟨_,rfl⟩
  have HVv:=zqh hv
  have hq:∀W,(Op.equalIn 10000 61 (.agg x.cs.toArray) (.agg #[.int .i64 2,.int .u64 x.set.w0,.int .u64 x.set.w1,.int .u64 x.set.w2,.int .u64 x.set.w3,.int .i64 0,.int .i64 0,.bool false])).run Tryz.prog W=.ok v W:=fun W=>zo3 W x ⟨2,x.set,0,0,false⟩ v hv
  clear hv
  go_enter Tryz.func58,Tryz.ntmps58
  go_wp2_with (first
   |(with_reducible show wpList _ _ _ (⟨some 17,.load _ _,_,_,_,_⟩::_) _ _
     refine zaa (by rfl) 61 _ rfl w.heap.size rfl 61 x.cs.toArray (0,0) _ HA.out Tryz.underlying61 rfl (by rw[qO,Nd.cs_length];kernel_rfl) ?_)
   | fail)
  go_ret
  exact ⟨by rw[HV.out,HVv.out];rfl,HB.out⟩
 by_cases hk3:x.kind=3
 ·have HKd:=zqh hk3
  rw[hk3] at c0
  clear hk3
  have HV:Hid (x.right n=(x.eqb ⟨3,zbn,x.a,x.b,false⟩&&aIn x.a n&&aIn x.b n)):=zqh (by unfold Nd.right Nd.bare;simp[HKd.out])
  obtain ⟨v,hv⟩:∃v,x.eqb ⟨3,zbn,x.a,x.b,false⟩=v:=⟨_,rfl⟩
  have HVv:=zqh hv
  have hq:∀W,(Op.equalIn 10000 61 (.agg x.cs.toArray) (.agg #[.int .i64 3,.int .u64 0,.int .u64 0,.int .u64 0,.int .u64 0,.int .i64 x.a,.int .i64 x.b,.bool false])).run Tryz.prog W=.ok v W:=fun W=>zo3 W x ⟨3,zbn,x.a,x.b,false⟩ v hv
  clear hv
  cases v
  ·go_enter Tryz.func58,Tryz.ntmps58
   go_wp2_with (first
    |(with_reducible show wpList _ _ _ (⟨some 28,.load _ _,_,_,_,_⟩::_) _ _
      refine zaa (by rfl) 61 _ rfl w.heap.size rfl 61 x.cs.toArray (0,0) _ HA.out Tryz.underlying61 rfl (by rw[qO,Nd.cs_length];kernel_rfl) ?_)
    | fail)
   go_ret
   exact ⟨by rw[HV.out,HVv.out];rfl,HB.out⟩
  ·go_enter Tryz.func58,Tryz.ntmps58
   go_wp2_with (first
    |(with_reducible show wpList _ _ _ (⟨some 28,.load _ _,_,_,_,_⟩::_) _ _
      refine zaa (by rfl) 61 _ rfl w.heap.size rfl 61 x.cs.toArray (0,0) _ HA.out Tryz.underlying61 rfl (by rw[qO,Nd.cs_length];kernel_rfl) ?_)
    | fail)
   refine (HH.out x.a _ HB.out).mono ?_
   rintro e w1 ⟨rfl,rfl⟩
   cases hai:aIn x.a n
   ·have hai:=zqh hai
    go_wp2_with fail
    go_ret
    exact ⟨by rw[HV.out,HVv.out,hai.out];rfl,HB.out⟩
   ·have hai:=zqh hai
    go_wp2_with fail
    refine (HH.out x.b _ HB.out).mono ?_
    rintro e w1 ⟨rfl,rfl⟩
    go_wp2_with fail
    go_ret
    exact ⟨by rw[HV.out,HVv.out,hai.out];rfl,HB.out⟩
 by_cases hk4:x.kind=4
 ·have HKd:=zqh hk4
  rw[hk4] at c0
  clear hk4
  have HV:Hid (x.right n=(x.eqb ⟨4,zbn,x.a,x.b,false⟩&&aIn x.a n&&aIn x.b n)):=zqh (by unfold Nd.right Nd.bare;simp[HKd.out])
  obtain ⟨v,hv⟩:∃v,x.eqb ⟨4,zbn,x.a,x.b,false⟩=v:=⟨_,rfl⟩
  have HVv:=zqh hv
  have hq:∀W,(Op.equalIn 10000 61 (.agg x.cs.toArray) (.agg #[.int .i64 4,.int .u64 0,.int .u64 0,.int .u64 0,.int .u64 0,.int .i64 x.a,.int .i64 x.b,.bool false])).run Tryz.prog W=.ok v W:=fun W=>zo3 W x ⟨4,zbn,x.a,x.b,false⟩ v hv
  clear hv
  cases v
  ·go_enter Tryz.func58,Tryz.ntmps58
   go_wp2_with (first
    |(with_reducible show wpList _ _ _ (⟨some 28,.load _ _,_,_,_,_⟩::_) _ _
      refine zaa (by rfl) 61 _ rfl w.heap.size rfl 61 x.cs.toArray (0,0) _ HA.out Tryz.underlying61 rfl (by rw[qO,Nd.cs_length];kernel_rfl) ?_)
    | fail)
   go_ret
   exact ⟨by rw[HV.out,HVv.out];rfl,HB.out⟩
  ·go_enter Tryz.func58,Tryz.ntmps58
   go_wp2_with (first
    |(with_reducible show wpList _ _ _ (⟨some 28,.load _ _,_,_,_,_⟩::_) _ _
      refine zaa (by rfl) 61 _ rfl w.heap.size rfl 61 x.cs.toArray (0,0) _ HA.out Tryz.underlying61 rfl (by rw[qO,Nd.cs_length];kernel_rfl) ?_)
    | fail)
   refine (HH.out x.a _ HB.out).mono ?_
   rintro e w1 ⟨rfl,rfl⟩
   cases hai:aIn x.a n
   ·have hai:=zqh hai
    go_wp2_with fail
    go_ret
    exact ⟨by rw[HV.out,HVv.out,hai.out];rfl,HB.out⟩
   ·have hai:=zqh hai
    go_wp2_with fail
    refine (HH.out x.b _ HB.out).mono ?_
    rintro e w1 ⟨rfl,rfl⟩
    go_wp2_with fail
    go_ret
    exact ⟨by rw[HV.out,HVv.out,hai.out];rfl,HB.out⟩
 by_cases hk5:x.kind=5
 ·have HKd:=zqh hk5
  rw[hk5] at c0
  clear hk5
  have HV:Hid (x.right n=(x.eqb ⟨5,zbn,x.a,x.b,false⟩&&aIn x.a n&&aIn x.b n)):=zqh (by unfold Nd.right Nd.bare;simp[HKd.out])
  obtain ⟨v,hv⟩:∃v,x.eqb ⟨5,zbn,x.a,x.b,false⟩=v:=⟨_,rfl⟩
  have HVv:=zqh hv
  have hq:∀W,(Op.equalIn 10000 61 (.agg x.cs.toArray) (.agg #[.int .i64 5,.int .u64 0,.int .u64 0,.int .u64 0,.int .u64 0,.int .i64 x.a,.int .i64 x.b,.bool false])).run Tryz.prog W=.ok v W:=fun W=>zo3 W x ⟨5,zbn,x.a,x.b,false⟩ v hv
  clear hv
  cases v
  ·go_enter Tryz.func58,Tryz.ntmps58
   go_wp2_with (first
    |(with_reducible show wpList _ _ _ (⟨some 28,.load _ _,_,_,_,_⟩::_) _ _
      refine zaa (by rfl) 61 _ rfl w.heap.size rfl 61 x.cs.toArray (0,0) _ HA.out Tryz.underlying61 rfl (by rw[qO,Nd.cs_length];kernel_rfl) ?_)
    | fail)
   go_ret
   exact ⟨by rw[HV.out,HVv.out];rfl,HB.out⟩
  ·go_enter Tryz.func58,Tryz.ntmps58
   go_wp2_with (first
    |(with_reducible show wpList _ _ _ (⟨some 28,.load _ _,_,_,_,_⟩::_) _ _
      refine zaa (by rfl) 61 _ rfl w.heap.size rfl 61 x.cs.toArray (0,0) _ HA.out Tryz.underlying61 rfl (by rw[qO,Nd.cs_length];kernel_rfl) ?_)
    | fail)
   refine (HH.out x.a _ HB.out).mono ?_
   rintro e w1 ⟨rfl,rfl⟩
   cases hai:aIn x.a n
   ·have hai:=zqh hai
    go_wp2_with fail
    go_ret
    exact ⟨by rw[HV.out,HVv.out,hai.out];rfl,HB.out⟩
   ·have hai:=zqh hai
    go_wp2_with fail
    refine (HH.out x.b _ HB.out).mono ?_
    rintro e w1 ⟨rfl,rfl⟩
    go_wp2_with fail
    go_ret
    exact ⟨by rw[HV.out,HVv.out,hai.out];rfl,HB.out⟩
 by_cases hk6:x.kind=6
 ·have HKd:=zqh hk6
  rw[hk6] at c0
  clear hk6
  have HV:Hid (x.right n=(x.eqb ⟨6,zbn,x.a,0,false⟩&&aIn x.a n)):=zqh (by unfold Nd.right Nd.bare;simp[HKd.out])
  obtain ⟨v,hv⟩:∃v,x.eqb ⟨6,zbn,x.a,0,false⟩=v:=⟨_,rfl⟩
  have HVv:=zqh hv
  have hq:∀W,(Op.equalIn 10000 61 (.agg x.cs.toArray) (.agg #[.int .i64 6,.int .u64 0,.int .u64 0,.int .u64 0,.int .u64 0,.int .i64 x.a,.int .i64 0,.bool false])).run Tryz.prog W=.ok v W:=fun W=>zo3 W x ⟨6,zbn,x.a,0,false⟩ v hv
  clear hv
  cases v
  ·go_enter Tryz.func58,Tryz.ntmps58
   go_wp2_with (first
    |(with_reducible show wpList _ _ _ (⟨some 52,.load _ _,_,_,_,_⟩::_) _ _
      refine zaa (by rfl) 61 _ rfl w.heap.size rfl 61 x.cs.toArray (0,0) _ HA.out Tryz.underlying61 rfl (by rw[qO,Nd.cs_length];kernel_rfl) ?_)
    | fail)
   go_ret
   exact ⟨by rw[HV.out,HVv.out];rfl,HB.out⟩
  ·go_enter Tryz.func58,Tryz.ntmps58
   go_wp2_with (first
    |(with_reducible show wpList _ _ _ (⟨some 52,.load _ _,_,_,_,_⟩::_) _ _
      refine zaa (by rfl) 61 _ rfl w.heap.size rfl 61 x.cs.toArray (0,0) _ HA.out Tryz.underlying61 rfl (by rw[qO,Nd.cs_length];kernel_rfl) ?_)
    | fail)
   refine (HH.out x.a _ HB.out).mono ?_
   rintro e w1 ⟨rfl,rfl⟩
   go_wp2_with fail
   go_ret
   exact ⟨by rw[HV.out,HVv.out];rfl,HB.out⟩
 by_cases hk7:x.kind=7
 ·have HKd:=zqh hk7
  rw[hk7] at c0
  clear hk7
  have HV:Hid (x.right n=(x.eqb ⟨7,zbn,x.a,0,false⟩&&aIn x.a n)):=zqh (by unfold Nd.right Nd.bare;simp[HKd.out])
  obtain ⟨v,hv⟩:∃v,x.eqb ⟨7,zbn,x.a,0,false⟩=v:=⟨_,rfl⟩
  have HVv:=zqh hv
  have hq:∀W,(Op.equalIn 10000 61 (.agg x.cs.toArray) (.agg #[.int .i64 7,.int .u64 0,.int .u64 0,.int .u64 0,.int .u64 0,.int .i64 x.a,.int .i64 0,.bool false])).run Tryz.prog W=.ok v W:=fun W=>zo3 W x ⟨7,zbn,x.a,0,false⟩ v hv
  clear hv
  cases v
  ·go_enter Tryz.func58,Tryz.ntmps58
   go_wp2_with (first
    |(with_reducible show wpList _ _ _ (⟨some 52,.load _ _,_,_,_,_⟩::_) _ _
      refine zaa (by rfl) 61 _ rfl w.heap.size rfl 61 x.cs.toArray (0,0) _ HA.out Tryz.underlying61 rfl (by rw[qO,Nd.cs_length];kernel_rfl) ?_)
    | fail)
   go_ret
   exact ⟨by rw[HV.out,HVv.out];rfl,HB.out⟩
  ·go_enter Tryz.func58,Tryz.ntmps58
   go_wp2_with (first
    |(with_reducible show wpList _ _ _ (⟨some 52,.load _ _,_,_,_,_⟩::_) _ _
      refine zaa (by rfl) 61 _ rfl w.heap.size rfl 61 x.cs.toArray (0,0) _ HA.out Tryz.underlying61 rfl (by rw[qO,Nd.cs_length];kernel_rfl) ?_)
    | fail)
   refine (HH.out x.a _ HB.out).mono ?_
   rintro e w1 ⟨rfl,rfl⟩
   go_wp2_with fail
   go_ret
   exact ⟨by rw[HV.out,HVv.out];rfl,HB.out⟩
 by_cases hk8:x.kind=8
 ·have HKd:=zqh hk8
  rw[hk8] at c0
  clear hk8
  have HV:Hid (x.right n=(x.eqb ⟨8,zbn,x.a,0,x.neg⟩&&aIn x.a 4)):=zqh (by unfold Nd.right Nd.bare;simp[HKd.out])
  obtain ⟨v,hv⟩:∃v,x.eqb ⟨8,zbn,x.a,0,x.neg⟩=v:=⟨_,rfl⟩
  have HVv:=zqh hv
  have hq:∀W,(Op.equalIn 10000 61 (.agg x.cs.toArray) (.agg #[.int .i64 8,.int .u64 0,.int .u64 0,.int .u64 0,.int .u64 0,.int .i64 x.a,.int .i64 0,.bool x.neg])).run Tryz.prog W=.ok v W:=fun W=>zo3 W x ⟨8,zbn,x.a,0,x.neg⟩ v hv
  clear hv
  cases v
  ·go_enter Tryz.func58,Tryz.ntmps58
   go_wp2_with (first
    |(with_reducible show wpList _ _ _ (⟨some 67,.load _ _,_,_,_,_⟩::_) _ _
      refine zaa (by rfl) 61 _ rfl w.heap.size rfl 61 x.cs.toArray (0,0) _ HA.out Tryz.underlying61 rfl (by rw[qO,Nd.cs_length];kernel_rfl) ?_)
    | fail)
   go_ret
   exact ⟨by rw[HV.out,HVv.out];rfl,HB.out⟩
  ·by_cases ha0:0<=x.a
   ·have HI:Hid (aIn x.a 4=decide (x.a<4)):=zqh (by unfold aIn;rw[qD ha0,jS])
    have ha1:decide (0<=x.a)=true:=qD ha0
    go_enter Tryz.func58,Tryz.ntmps58
    go_wp2_with (first
     |(with_reducible show wpList _ _ _ (⟨some 67,.load _ _,_,_,_,_⟩::_) _ _
       refine zaa (by rfl) 61 _ rfl w.heap.size rfl 61 x.cs.toArray (0,0) _ HA.out Tryz.underlying61 rfl (by rw[qO,Nd.cs_length];kernel_rfl) ?_)
     | fail)
    go_ret
    exact ⟨by rw[HV.out,HVv.out,HI.out];rfl,HB.out⟩
   ·have HI:Hid (aIn x.a 4=false):=zqh (by unfold aIn;rw[qE ha0,yC])
    have ha1:decide (0<=x.a)=false:=qE ha0
    go_enter Tryz.func58,Tryz.ntmps58
    go_wp2_with (first
     |(with_reducible show wpList _ _ _ (⟨some 67,.load _ _,_,_,_,_⟩::_) _ _
       refine zaa (by rfl) 61 _ rfl w.heap.size rfl 61 x.cs.toArray (0,0) _ HA.out Tryz.underlying61 rfl (by rw[qO,Nd.cs_length];kernel_rfl) ?_)
     | fail)
    go_ret
    exact ⟨by rw[HV.out,HVv.out,HI.out];rfl,HB.out⟩
 have hb0:=(zab hk0).1
 have h0:=zqh hk0
 have hb1:=(zab hk1).1
 have h1:=zqh hk1
 have hb2:=(zab hk2).1
 have h2:=zqh hk2
 have hb3:=(zab hk3).1
 have h3:=zqh hk3
 have hb4:=(zab hk4).1
 have h4:=zqh hk4
 have hb5:=(zab hk5).1
 have h5:=zqh hk5
 have hb6:=(zab hk6).1
 have h6:=zqh hk6
 have hb7:=(zab hk7).1
 have h7:=zqh hk7
 have hb8:=(zab hk8).1
 have h8:=zqh hk8
 clear hk0 hk1 hk2 hk3 hk4 hk5 hk6 hk7 hk8
 have HV:Hid (x.right n=false):=zqh (by unfold Nd.right;simp[h0.out,h1.out,h2.out,h3.out,h4.out,h5.out,h6.out,h7.out,h8.out])
 go_enter Tryz.func58,Tryz.ntmps58
 go_wp2_with fail
 go_ret
 exact ⟨by rw[HV.out];rfl,HB.out⟩
theorem zjX {w:World} {a:Value} {ns:List Nd} {F:Nat->Prop} (x:Nd) (h:AA w a ns F):Calls Tryz.prog 58 #[a,.agg x.cs.toArray] w fun e w'=>e=.returned (.bool (x.right ns.length))/\Below w.heap.size w w' :=
 aFormedOf a ns.length x w (fun i w' hb=>zvw i (h.next hb))
end

section
open Go.RowKit Go.Maps
theorem zkB {w:World} {m:Option Nat} {ns:List Nd} (h:(m=none/\ns=[])\/∃k,m=some k/\zbA w k ns) {x:Nd} (hx:zbQ x) :
  (Instr.lookup 67 (.map m) (.agg x.cs.toArray) true).run Tryz.prog w=.ok (.tuple #[.int .i64 (if zaM ns x<ns.length then (zaM ns x:Int) else 0),.bool (decide (zaM ns x<ns.length))]) w:=by
 rcases h with ⟨rfl,rfl⟩ | ⟨k,rfl,hk⟩
 ·exact Maps.look_nil true zfF Tryz.underlying67 (zkA w) (zeA x hx)
 ·exact hk.look hx
theorem ztt {w:World} {a v:Value} {ns:List Nd} {F:Nat->Prop} {g:Nat} {m:Option Nat} (x:Nd) (h:AT w a ns F g m v) (hx:zbQ x) (hn:ns.length<20000) :
  Calls Tryz.prog 23 #[a,.agg x.cs.toArray] w fun e w'=>∃F',e=.returned (.tuple #[.int .i64 (zdJ ns x),.int .i64 (zly ns x)])/\AG w' a (zdI ns x) F' g m/\(∀b,F' b->F b\/w.heap.size<=b)/\OffF F w w':=by
 obtain rfl:=h.ptr
 obtain ⟨A,c,rfl⟩:=h.row.len
 have hA:At (w.alloc (Obj.cells x.cs.toArray 61)) w.heap.size 61 x.cs.toArray:=At.new _ _ _
 have hB:Below w.heap.size w (w.alloc (Obj.cells x.cs.toArray 61)):=zqb
 have HB:=zqh hB
 have HA:=zqh hA
 have HX:=zqh hx
 have HT:=zqh (h.next hB)
 have HR:Hid (Calls Tryz.prog 58 #[.pointer (some ⟨g,0,none⟩),.agg #[.int .i64 x.kind,.int .u64 x.set.w0,.int .u64 x.set.w1,.int .u64 x.set.w2,.int .u64 x.set.w3,.int .i64 x.a,.int .i64 x.b,.bool x.neg]] (w.alloc (Obj.cells x.cs.toArray 61)) fun e w'=>e=.returned (.bool (x.right ns.length))/\Below (w.alloc (Obj.cells x.cs.toArray 61)).heap.size (w.alloc (Obj.cells x.cs.toArray 61)) w'):=zqh (zjX x ⟨g,m,_,HT.out⟩)
 obtain ⟨z0,z1,z2,z3,z4,z5,z6,z7⟩:=Nd.cells hA
 clear h hx hA hB
 go_enter Tryz.func23,Tryz.ntmps23
 go_wp2_with fail
 refine HR.out.mono ?_
 rintro e w3 ⟨rfl,hb3⟩
 clear z0 z1 z2 z3 z4 z5 z6 z7
 have HA3:=zqh (HA.out.step hb3 rfl)
 have HB3:=zqh (HB.out.trans (hb3.mono HB.out.size))
 have HT3:=zqh (HT.out.next hb3)
 clear hb3
 obtain ⟨z0,z1,z2,z3,z4,z5,z6,z7⟩:=Nd.cells HA3.out
 have c0:=HT3.out.box.cell 0
 have c1:=HT3.out.box.cell 1
 cases hrt:x.right ns.length
 ·have HPS:Hid (zdI ns x=ns):=zqh (by unfold zdI;rw[hrt];rfl)
  have HPI:Hid (zdJ ns x=0):=zqh (by unfold zdJ;rw[hrt];rfl)
  have HPE:Hid (zly ns x=1):=zqh (by unfold zly;rw[hrt];rfl)
  clear hrt
  go_wp2_with fail
  go_ret2
  refine ⟨F,by rw[HPI.out,HPE.out];rfl,?_,fun b hb=>Or.inl hb,OffF.of HB3.out⟩
  rw[HPS.out]
  exact ⟨m,_,HT3.out,fun _ e=>e⟩
 ·have HRt:=zqh hrt
  have HPE:Hid (zly ns x=0):=zqh (by unfold zly;rw[hrt];rfl)
  have HPI:Hid (zdJ ns x=(zaM ns x:Int)):=zqh (by unfold zdJ;rw[hrt];rfl)
  clear hrt
  have hlk:∀q,(Instr.lookup 67 (.map m) (.agg #[.int .i64 x.kind,.int .u64 x.set.w0,.int .u64 x.set.w1,.int .u64 x.set.w2,.int .u64 x.set.w3,.int .i64 x.a,.int .i64 x.b,.bool x.neg]) true).run Tryz.prog (w3.drewN q)=.ok (.tuple #[.int .i64 (if zaM ns x<ns.length then (zaM ns x:Int) else 0),.bool (decide (zaM ns x<ns.length))]) (w3.drewN q):=fun q=>zkB (w:=w3.drewN q) (by rcases HT3.out.ids with e | ⟨k,e,hk⟩;exact Or.inl e;exact Or.inr ⟨k,e,hk.kept rfl⟩) HX.out
  by_cases hlt:zaM ns x<ns.length
  ·rw[qD hlt,if_pos hlt] at hlk
   have HPS:Hid (zdI ns x=ns):=zqh (by unfold zdI;rw[if_pos HRt.out,if_pos hlt])
   clear hlt
   go_wp2_with fail
   go_quiet (fail)
   go_wp2_with fail
   go_ret2
   refine ⟨F,by rw[HPI.out,HPE.out];rfl,?_,fun b hb=>Or.inl hb,OffF.of (zbc HB3.out _)⟩
   rw[HPS.out]
   exact ⟨m,_,HT3.out.keep (fun _ _=>rfl),fun _ e=>e⟩
  ·rw[qE hlt,if_neg hlt] at hlk
   have hfe:zaM ns x=ns.length:=by have:=ze4 ns x;omega
   have HPS:Hid (zdI ns x=ns++[x]):=zqh (by unfold zdI;rw[if_pos HRt.out,if_neg hlt])
   have HFe:=zqh hfe
   have HLt:=zqh hlt
   have hnm:¬(20000:Int)<=(ns.length:Int):=by omega
   have hnm2:decide ((20000:Int)<=(ns.length:Int))=false:=qE hnm
   have HAd:Hid (∀q,Calls Tryz.prog 59 #[.pointer (some ⟨g,0,none⟩),.agg #[.int .i64 x.kind,.int .u64 x.set.w0,.int .u64 x.set.w1,.int .u64 x.set.w2,.int .u64 x.set.w3,.int .i64 x.a,.int .i64 x.b,.bool x.neg]] (w3.drewN q) fun e w'=>∃F',e=.returned (.int .i64 ns.length)/\AG w' (.pointer (some ⟨g,0,none⟩)) (ns++[x]) F' g m/\(∀b,F' b->F b\/(w3.drewN q).heap.size<=b)/\OffF F (w3.drewN q) w'):=zqh (fun q=>zuN x (HT3.out.keep (fun _ _=>rfl):AT (w3.drewN q) _ _ _ _ _ _) HX.out (by omega) HRt.out HLt.out)
   clear hlt hfe
   go_wp2_with fail
   go_quiet (fail)
   go_wp2_with fail
   refine (HAd.out _).mono ?_
   rintro e w5 ⟨F',rfl,hA5,hF5,ho5⟩
   go_wp2_with fail
   go_ret2
   refine ⟨F',by rw[HPI.out,HPE.out,HFe.out];rfl,by rw[HPS.out];exact hA5,fun b q=>?_,?_⟩
   ·rcases hF5 b q with q | q
    ·exact Or.inl q
    ·exact Or.inr (qH HB3.out.size q)
   ·exact (OffF.of (zbc HB3.out _)).off ho5 (fun b q=>Or.inl q)
theorem zqL {w:World} {a v:Value} {ns:List Nd} {F:Nat->Prop} {g:Nat} {m:Option Nat} (x:Nd) (h:AT w a ns F g m v) (hx:zbQ x) (hrt:x.right ns.length=false) :
  Calls Tryz.prog 23 #[a,.agg x.cs.toArray] w fun e w'=>e=.returned (.tuple #[.int .i64 0,.int .i64 1])/\Below w.heap.size w w':=by
 obtain rfl:=h.ptr
 obtain ⟨A,c,rfl⟩:=h.row.len
 have hA:At (w.alloc (Obj.cells x.cs.toArray 61)) w.heap.size 61 x.cs.toArray:=At.new _ _ _
 have hB:Below w.heap.size w (w.alloc (Obj.cells x.cs.toArray 61)):=zqb
 have HB:=zqh hB
 have HA:=zqh hA
 have HX:=zqh hx
 have HT:=zqh (h.next hB)
 have HR:Hid (Calls Tryz.prog 58 #[.pointer (some ⟨g,0,none⟩),.agg #[.int .i64 x.kind,.int .u64 x.set.w0,.int .u64 x.set.w1,.int .u64 x.set.w2,.int .u64 x.set.w3,.int .i64 x.a,.int .i64 x.b,.bool x.neg]] (w.alloc (Obj.cells x.cs.toArray 61)) fun e w'=>e=.returned (.bool (x.right ns.length))/\Below (w.alloc (Obj.cells x.cs.toArray 61)).heap.size (w.alloc (Obj.cells x.cs.toArray 61)) w'):=zqh (zjX x ⟨g,m,_,HT.out⟩)
 obtain ⟨z0,z1,z2,z3,z4,z5,z6,z7⟩:=Nd.cells hA
 clear h hx hA hB
 go_enter Tryz.func23,Tryz.ntmps23
 go_wp2_with fail
 refine HR.out.mono ?_
 rintro e w3 ⟨rfl,hb3⟩
 clear z0 z1 z2 z3 z4 z5 z6 z7
 have HA3:=zqh (HA.out.step hb3 rfl)
 have HB3:=zqh (HB.out.trans (hb3.mono HB.out.size))
 have HT3:=zqh (HT.out.next hb3)
 clear hb3
 obtain ⟨z0,z1,z2,z3,z4,z5,z6,z7⟩:=Nd.cells HA3.out
 have c0:=HT3.out.box.cell 0
 have c1:=HT3.out.box.cell 1
 rw[hrt]
 clear hrt
 go_wp2_with fail
 go_ret2
 exact ⟨rfl,HB3.out⟩
theorem zvx {w:World} {a:Value} {ns:List Nd} {F:Nat->Prop} (x:Nd) (h:AA w a ns F) (hx:zbQ x) (hn:ns.length<20000) :
  Calls Tryz.prog 23 #[a,.agg x.cs.toArray] w fun e w'=>∃F',e=.returned (.tuple #[.int .i64 (zdJ ns x),.int .i64 (zly ns x)])/\AA w' a (zdI ns x) F'/\(∀b,F' b->F b\/w.heap.size<=b)/\OffF F w w':=by
 obtain ⟨g,m,v,h⟩:=h
 exact (ztt x h hx hn).mono (fun _ _ ⟨F',h1,h2,h3⟩=>⟨F',h1,h2.aa,h3⟩)
end

section
open Go.RowKit
structure ArenaMid (AA:World->Value->List Nd->(Nat->Prop)->Prop):Prop where
 low:∀{w:World} {a:Value} {ns:List Nd} {F:Nat->Prop},AA w a ns F->∀b,F b->b<w.heap.size
 keep:∀{w w':World} {a:Value} {ns:List Nd} {F:Nat->Prop},AA w a ns F->(∀b,F b->w'.heap[b]?=w.heap[b]?)->AA w' a ns F
 fine:∀{w:World} {a:Value} {ns:List Nd} {F:Nat->Prop},AA w a ns F->zaA ns
 max:∀{w:World} {a:Value} {ns:List Nd} {F:Nat->Prop},AA w a ns F->ns.length<=20000
 ptr:∀{w:World} {a:Value} {ns:List Nd} {F:Nat->Prop},AA w a ns F->∃g,a=.pointer (some ⟨g,0,none⟩)
 put:∀{w:World} {a:Value} {ns:List Nd} {F:Nat->Prop} (x:Nd),AA w a ns F->zbQ x->ns.length<20000->Calls Tryz.prog 23 #[a,.agg x.cs.toArray] w fun e w'=>∃F',e=.returned (.tuple #[.int .i64 (zdJ ns x),.int .i64 (zly ns x)])/\AA w' a (zdI ns x) F'/\(∀b,F' b->F b\/w.heap.size<=b)/\OffF F w w'
 putNo:∀{w:World} {a:Value} {ns:List Nd} {F:Nat->Prop} (x:Nd),AA w a ns F->zbQ x->x.right ns.length=false->Calls Tryz.prog 23 #[a,.agg x.cs.toArray] w fun e w'=>e=.returned (.tuple #[.int .i64 0,.int .i64 1])/\Below w.heap.size w w'
 len:∀{w:World} {a:Value} {ns:List Nd} {F:Nat->Prop},AA w a ns F->Calls Tryz.prog 9 #[a] w fun e w'=>e=.returned (.int .i64 ns.length)/\w'=w
 node:∀{w:World} {a:Value} {ns:List Nd} {F:Nat->Prop} (i:Int),AA w a ns F->I64 i->Calls Tryz.prog 36 #[a,.int .i64 i] w fun e w'=>∃y:Nd,e=.returned (.tuple #[.agg y.cs.toArray,.bool (decide (0<=i/\i<ns.length))])/\(0<=i/\i<ns.length->y=zaQ ns i.toNat)/\Below w.heap.size w w'/\(¬(0<=i/\i<ns.length)->y=Nd.zero)
section
variable {AA:World->Value->List Nd->(Nat->Prop)->Prop}
theorem ArenaMid.next (S:ArenaMid AA) {w w':World} {a:Value} {ns:List Nd} {F:Nat->Prop} (h:AA w a ns F) (hb:Below w.heap.size w w'):AA w' a ns F:=S.keep h (fun b q=>hb.block b (S.low h b q))
theorem ArenaMid.nodeIn (S:ArenaMid AA) {w:World} {a:Value} {ns:List Nd} {F:Nat->Prop} (i:Int) (h:AA w a ns F) (hi:I64 i):Calls Tryz.prog 36 #[a,.int .i64 i] w fun e w'=>∃y:Nd,e=.returned (.tuple #[.agg y.cs.toArray,.bool (decide (0<=i/\i<ns.length))])/\(0<=i/\i<ns.length->y=zaQ ns i.toNat)/\Below w.heap.size w w' :=
 (S.node i h hi).mono (fun _ _ ⟨y,h1,h2,h3,_⟩=>⟨y,h1,h2,h3⟩)
end
end

section
open Go.RowKit
theorem zpo:zdq AA where
 low:=AA.low
 keep:=AA.keep
 fine:=AA.fine
 max:=fun h=>by obtain ⟨g,m,v,h⟩:=h;exact h.max
 ptr:=fun h=>by obtain ⟨g,m,v,h⟩:=h;exact ⟨g,h.ptr⟩
 new:=zuL
 put:=fun x h hx hn=>zvx x h hx hn
 len:=fun h=>(zuz h).mono (by rintro e w1 ⟨rfl,rfl⟩;exact ⟨rfl,0,rfl⟩)
 node:=fun i h hi=>zuM i h hi
end

section
open Go.RowKit
theorem zar:ArenaMid AA where
 low:=AA.low
 keep:=AA.keep
 fine:=AA.fine
 max:=fun h=>by obtain ⟨g,m,v,h⟩:=h;exact h.max
 ptr:=fun h=>by obtain ⟨g,m,v,h⟩:=h;exact ⟨g,h.ptr⟩
 put:=fun x h hx hn=>zvx x h hx hn
 putNo:=fun x h hx hr=>by obtain ⟨g,m,v,h⟩:=h;exact zqL x h hx hr
 len:=fun h=>zuz h
 node:=fun i h hi=>aNodeZ i h hi
def AM (m:Nat) (w:World) (a:Value) (ns:List Nd) (F:Nat->Prop):Prop:=∃g v,AT w a ns F g (some m) v
theorem AM.aa {m:Nat} {w:World} {a:Value} {ns:List Nd} {F:Nat->Prop} (h:AM m w a ns F):AA w a ns F:=by
 obtain ⟨g,v,h⟩:=h
 exact ⟨g,some m,v,h⟩
theorem zvH (m:Nat):ArenaMid (AM m) where
 low:=fun h=>h.aa.low
 keep:=fun h hk=>by
  obtain ⟨g,v,h⟩:=h
  exact ⟨g,v,h.keep hk⟩
 fine:=fun h=>h.aa.fine
 max:=fun h=>zar.max h.aa
 ptr:=fun h=>zar.ptr h.aa
 put:=fun x h hx hn=>by
  obtain ⟨g,v,h⟩:=h
  refine (ztt x h hx hn).mono ?_
  rintro e w' ⟨F',h1,⟨m',v',h2,h3⟩,h4⟩
  obtain rfl:=h3 m rfl
  exact ⟨F',h1,⟨g,v',h2⟩,h4⟩
 putNo:=fun x h hx hr=>by obtain ⟨g,v,h⟩:=h;exact zqL x h hx hr
 len:=fun h=>zuz h.aa
 node:=fun i h hi=>aNodeZ i h.aa hi
end

section
open Go.RowKit
section
variable {ns:List Nd} (hc:Canon ns) {k:Int} (hk:k=4\/k=5)
include hc hk
end
end

section
open Go.RowKit
theorem zgl (w:World) (x y:Int) (t:TypeId):zb1 (w.alloc (.cells #[.int .i64 x,.int .i64 y] t)) (.slice (some ⟨w.heap.size,0,none⟩) 2 2) [x,y] :=
 ⟨_,_,rfl,fun _=>⟨w.heap.size,0,rfl,by simp,fun j hj=>by
  have h:=(At.new w t #[.int .i64 x,.int .i64 y]).cell (0+j)
  rw[h]
  have hj:j<2:=hj
  have:j=0\/j=1:=by omega
  rcases this with rfl | rfl<;>rfl⟩⟩
section
variable {AA:World->Value->List Nd->(Nat->Prop)->Prop}
end
end

section
open Go.RowKit
def UpN (ns ns':List Nd):Prop:=∃more,ns'=ns++more
section
variable {AA:World->Value->List Nd->(Nat->Prop)->Prop}
variable (S:zdq AA) (N:zpd AA) {w0 w:World} {a:Value} {ns0 ns:List Nd} {F0:Nat->Prop} {m:Nat}
include N
end
end

section
open Go.RowKit
structure zuO (ns:List Nd) (x:Nd):Prop where
 cat:x.kind=3->(kd ns x.a≠0/\kd ns x.a≠1/\kd ns x.a≠3)/\kd ns x.b≠0/\kd ns x.b≠1
 join:∀k,k=4\/k=5->x.kind=k->kd ns x.a≠k/\(x.a::mem ns k x.b).Pairwise (·<·)/\(∀y∈x.a::mem ns k x.b,zjO ns k y=false/\zev ns k y=false)/\(∀y∈x.a::mem ns k x.b,∀z∈x.a::mem ns k x.b,kd ns y=2->kd ns z=2->y=z)
 not:x.kind=6->kd ns x.a≠6
 star:x.kind=7->kd ns x.a≠0/\kd ns x.a≠1/\kd ns x.a≠7
 bytes:x.kind=2->∃b,b<256/\x.set.has b=true
theorem zng {ns:List Nd} {x:Nd} (hf:zaA ns) (hr:x.right ns.length=true) (hx:zbQ x) (hn:¬zaM ns x<ns.length):zaA (ns++[x]):=by
 have hl:(ns++[x]).length=ns.length+1:=by rw[qF];rfl
 have hat:∀j,j<ns.length->zaQ (ns++[x]) j=zaQ ns j:=fun j hj=>by unfold zaQ;rw[jP hj]
 have hlast:zaQ (ns++[x]) ns.length=x:=by unfold zaQ;rw[yK zqn,kK];rfl
 have hne:∀j,j<ns.length->zaQ ns j≠x:=fun j hj e=>hn (by
  rcases Nat.lt_or_ge (zaM ns x) ns.length with h | h
  ·exact h
  ·have h1:=ziU (ns:=ns) (x:=x) (t:=j) (by omega)
   rw[e,Nd.eqb_self] at h1;cases h1)
 refine ⟨fun j hj=>?_,fun i j hi hj e=>?_⟩
 ·rw[hl] at hj
  by_cases c:j<ns.length
  ·rw[hat j c];exact hf.1 j c
  ·obtain rfl:j=ns.length:=by omega
   rw[hlast];exact ⟨hr,hx⟩
 ·rw[hl] at hi hj
  by_cases c:i<ns.length
  ·by_cases d:j<ns.length
   ·rw[hat i c,hat j d] at e;exact hf.2 i j c d e
   ·obtain rfl:j=ns.length:=by omega
    rw[hat i c,hlast] at e;exact absurd e (hne i c)
  ·obtain rfl:i=ns.length:=by omega
   by_cases d:j<ns.length
   ·rw[hlast,hat j d] at e;exact absurd e.symm (hne j d)
   ·omega
theorem zpp {ns:List Nd} {x:Nd} (h:x.right ns.length=true) (hf:zbQ x):(x.kind=3\/x.kind=4\/x.kind=5->zac ns x.a/\zac ns x.b)/\(x.kind=6\/x.kind=7->zac ns x.a):=by
 have ho:=zkr h hf
 exact ⟨fun k=>⟨⟨(ho.2.1 k).1,(ho.2.1 k).2.1⟩,(ho.2.1 k).2.2⟩,fun k=>ho.2.2.1 k⟩
theorem znh {ns:List Nd} {x:Nd} (hc:Canon ns) (hr:x.right ns.length=true) (hx:zbQ x) (hl:zuO ns x) :
  Canon (zdI ns x)/\zac (zdI ns x) (zdJ ns x)/\zaQ (zdI ns x) (zdJ ns x).toNat=x/\(∃more,zdI ns x=ns++more/\more.length<=1)/\(zac ns (zdJ ns x)->zdI ns x=ns):=by
 have hid:zdJ ns x=(zaM ns x:Int):=by unfold zdJ;rw[if_pos hr]
 obtain ⟨p1,p2⟩:=zm9 (ns:=ns) hr
 have hle:=ze4 ns x
 by_cases hlt:zaM ns x<ns.length
 ·have hps:zdI ns x=ns:=by unfold zdI;rw[if_pos hr,if_pos hlt]
  rw[hps] at p1 p2 ⊢
  refine ⟨hc,?_,by rw[hid,xO];exact p2,⟨[],by rw[jA],by simp⟩,fun _=>rfl⟩
  rw[hid];unfold zac;omega
 ·have hps:zdI ns x=ns++[x]:=by unfold zdI;rw[if_pos hr,if_neg hlt]
  have hfe:zaM ns x=ns.length:=by omega
  have hlen:(ns++[x]).length=ns.length+1:=by rw[qF];rfl
  rw[hps] at p1 p2 ⊢
  have hfine:=zng hc.fine hr hx hlt
  have hnew:zaQ (ns++[x]) (ns.length:Int).toNat=x:=by rw[xO,<-hfe];exact p2
  have hcase:∀y,zac (ns++[x]) y->zac ns y\/y=(ns.length:Int):=fun y hy=>by
   unfold zac at *
   rw[hlen] at hy
   omega
  obtain ⟨r2,r1⟩:=zpp hr hx
  have kn:kd (ns++[x]) (ns.length:Int)=x.kind:=by unfold kd;rw[hnew]
  have an:ka (ns++[x]) (ns.length:Int)=x.a:=by unfold ka;rw[hnew]
  have bn:kb (ns++[x]) (ns.length:Int)=x.b:=by unfold kb;rw[hnew]
  refine ⟨⟨hfine,fun y hy k3=>?_,fun k hk y hy ke=>?_,fun y hy k6=>?_,fun y hy k7=>?_,fun y hy k2=>?_⟩,by rw[hid,hfe];unfold zac;omega,by rw[hid,hfe];exact hnew,⟨[x],rfl,by simp⟩,fun h=>by rw[hid,hfe] at h;unfold zac at h;omega⟩
  ·rcases hcase y hy with q | q
   ·rw[zbt q] at k3
    rw[zlA q,ztj q]
    obtain ⟨⟨a0,_⟩,b0,_⟩:=zaK hc.fine q (Or.inl k3)
    rw[zbt a0,zbt b0]
    exact hc.cat y q k3
   ·subst q
    rw[kn] at k3
    rw[an,bn]
    obtain ⟨a0,b0⟩:=r2 (Or.inl k3)
    rw[zbt a0,zbt b0]
    exact hl.cat k3
  ·rcases hcase y hy with q | q
   ·rw[zbt q] at ke
    rw[zlA q,zmN hc.fine hk [x] _ y zqn q]
    obtain ⟨⟨a0,_⟩,b0,_⟩:=zaK hc.fine q (by omega)
    rw[zbt a0]
    obtain ⟨j1,j2,j3,j4⟩:=hc.join k hk y q ke
    have hin:∀z∈mem ns k y,zac ns z:=fun z hz=>(zcs hc.fine hk _ y zqn q z hz).1
    refine ⟨j1,j2,fun z hz=>?_,fun z hz u hu e1 e2=>?_⟩
    ·rw[zmS hc.fine [x] (hin z hz),zks hc.fine [x] (hin z hz)];exact j3 z hz
    ·rw[zbt (hin z hz)] at e1
     rw[zbt (hin u hu)] at e2
     exact j4 z hz u hu e1 e2
   ·subst q
    rw[kn] at ke
    obtain ⟨a0,b0⟩:=r2 (by omega)
    obtain ⟨j1,j2,j3,j4⟩:=hl.join k hk ke
    have hm:mem (ns++[x]) k (ns.length:Int)=x.a::mem ns k x.b:=by
     rw[zbV hfine hk hy (by rw[kn,ke]),an,bn,zmN hc.fine hk [x] _ x.a zqn a0,zmN hc.fine hk [x] _ x.b zqn b0,zdl j1];rfl
    have hin:∀z∈x.a::mem ns k x.b,zac ns z:=fun z hz=>by
     rcases List.mem_cons.1 hz with rfl | hz
     ·exact a0
     ·exact (zcs hc.fine hk _ x.b zqn b0 z hz).1
    rw[an,zbt a0,hm]
    refine ⟨j1,j2,fun z hz=>?_,fun z hz u hu e1 e2=>?_⟩
    ·rw[zmS hc.fine [x] (hin z hz),zks hc.fine [x] (hin z hz)];exact j3 z hz
    ·rw[zbt (hin z hz)] at e1
     rw[zbt (hin u hu)] at e2
     exact j4 z hz u hu e1 e2
  ·rcases hcase y hy with q | q
   ·rw[zbt q] at k6
    rw[zlA q,zbt (zbT hc.fine q (Or.inl k6)).1]
    exact hc.not y q k6
   ·subst q
    rw[kn] at k6
    rw[an,zbt (r1 (Or.inl k6))]
    exact hl.not k6
  ·rcases hcase y hy with q | q
   ·rw[zbt q] at k7
    rw[zlA q,zbt (zbT hc.fine q (Or.inr k7)).1]
    exact hc.star y q k7
   ·subst q
    rw[kn] at k7
    rw[an,zbt (r1 (Or.inr k7))]
    exact hl.star k7
  ·rcases hcase y hy with q | q
   ·rw[zbt q] at k2
    rw[zo4 q]
    exact hc.bytes y q k2
   ·subst q
    rw[kn] at k2
    rw[hnew]
    exact hl.bytes k2
end
end Go.Proofs.YtdmodhnhldbpnaaGreat
