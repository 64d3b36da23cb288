/- Joined: ArenaFormed, ArenaPut, ArenaBigIs, ArenaMapIs. -/
import Derived.Test.YtgmpfnfomgadeaaGreatArenaIs
import Derived.Test.YtgmpfnfomgadeaaGreatArenaAdd
import Derived.Test.YtgmpfnfomgadeaaGreatMae
import Derived.Test.YtgmpfnfomgadeaaGreatMav
/- (*arena.Arena).formed: may a node be put behind so many? -/
set_option linter.unusedSimpArgs false
set_option linter.unusedVariables false
set_option maxHeartbeats 16000000
set_option maxRecDepth 100000
namespace Go.Proofs.YtgmpfnfomgadeaaGreat
open Go.RowKit Go.Maps
theorem aFormedOf (a:Value) (n:Nat) (x:Nd) (w:World) (hhas:∀(i:Int) (w':World),Below w.heap.size w w'→Calls Tryz.prog 43 #[a,.int .i64 i] w' fun e w2=>e=.returned (.bool (aIn i n))∧w2=w') :
    Calls Tryz.prog 92 #[a,.agg x.cs.toArray] w fun e w'=>e=.returned (.bool (x.right n))∧Below w.heap.size w w':=by
  have HH:=Lib.hid hhas
  clear hhas
  have HA:Hid (At (w.alloc (.cells x.cs.toArray 61)) w.heap.size 61 x.cs.toArray):=Lib.hid (At.new _ _ _)
  have HB:Hid (Below w.heap.size w (w.alloc (.cells x.cs.toArray 61))):=Lib.hid ((Below.refl _ _).alloc (Nat.le_refl _) _)
  obtain ⟨c0,c1,c2,c3,c4,c5,c6,c7⟩:=Nd.cells HA.out
  by_cases hk0:x.kind=0
  · have HKd:=Lib.hid hk0
    rw[hk0] at c0
    clear hk0
    have HV:Hid (x.right n=x.eqb ⟨0,noSt,0,0,false⟩):=Lib.hid (by unfold Nd.right Nd.bare;simp[HKd.out])
    obtain ⟨v,hv⟩:∃v,x.eqb ⟨0,noSt,0,0,false⟩=v:=⟨_,rfl⟩
    have HVv:=Lib.hid hv
    have hq:∀W,(Op.equalIn 10000 61 (.agg x.cs.toArray) (.agg #[.int .i64 0,.int .u64 0,.int .u64 0,.int .u64 0,.int .u64 0,.int .i64 0,.int .i64 0,.bool false])).run Tryz.prog W=.ok v W:=fun W=>ndEq W x ⟨0,noSt,0,0,false⟩ v hv
    clear hv
    go_enter Tryz.func92,Tryz.ntmps92
    go_wp2_with (first
      | (with_reducible show wpList _ _ _ (⟨some 10,.load _ _,_,_,_,_⟩::_) _ _
         refine wpList_load_row_want (by rfl) 61 _ rfl w.heap.size rfl 61 x.cs.toArray (0,0) _ HA.out Tryz.underlying61 rfl (by rw[List.size_toArray,Nd.cs_length];kernel_rfl) ?_)
      | fail)
    go_ret
    exact ⟨by rw[HV.out,HVv.out];rfl,HB.out⟩
  by_cases hk1:x.kind=1
  · have HKd:=Lib.hid hk1
    rw[hk1] at c0
    clear hk1
    have HV:Hid (x.right n=x.eqb ⟨1,noSt,0,0,false⟩):=Lib.hid (by unfold Nd.right Nd.bare;simp[HKd.out])
    obtain ⟨v,hv⟩:∃v,x.eqb ⟨1,noSt,0,0,false⟩=v:=⟨_,rfl⟩
    have HVv:=Lib.hid hv
    have hq:∀W,(Op.equalIn 10000 61 (.agg x.cs.toArray) (.agg #[.int .i64 1,.int .u64 0,.int .u64 0,.int .u64 0,.int .u64 0,.int .i64 0,.int .i64 0,.bool false])).run Tryz.prog W=.ok v W:=fun W=>ndEq W x ⟨1,noSt,0,0,false⟩ v hv
    clear hv
    go_enter Tryz.func92,Tryz.ntmps92
    go_wp2_with (first
      | (with_reducible show wpList _ _ _ (⟨some 10,.load _ _,_,_,_,_⟩::_) _ _
         refine wpList_load_row_want (by rfl) 61 _ rfl w.heap.size rfl 61 x.cs.toArray (0,0) _ HA.out Tryz.underlying61 rfl (by rw[List.size_toArray,Nd.cs_length];kernel_rfl) ?_)
      | fail)
    go_ret
    exact ⟨by rw[HV.out,HVv.out];rfl,HB.out⟩
  by_cases hk2:x.kind=2
  · have HKd:=Lib.hid hk2
    rw[hk2] at c0
    clear hk2
    have HV:Hid (x.right n=x.eqb ⟨2,x.set,0,0,false⟩):=Lib.hid (by unfold Nd.right Nd.bare;simp[HKd.out])
    obtain ⟨v,hv⟩:∃v,x.eqb ⟨2,x.set,0,0,false⟩=v:=⟨_,rfl⟩
    have HVv:=Lib.hid hv
    have hq:∀W,(Op.equalIn 10000 61 (.agg x.cs.toArray) (.agg #[.int .i64 2,.int .u64 x.set.w0,.int .u64 x.set.w1,.int .u64 x.set.w2,.int .u64 x.set.w3,.int .i64 0,.int .i64 0,.bool false])).run Tryz.prog W=.ok v W:=fun W=>ndEq W x ⟨2,x.set,0,0,false⟩ v hv
    clear hv
    go_enter Tryz.func92,Tryz.ntmps92
    go_wp2_with (first
      | (with_reducible show wpList _ _ _ (⟨some 17,.load _ _,_,_,_,_⟩::_) _ _
         refine wpList_load_row_want (by rfl) 61 _ rfl w.heap.size rfl 61 x.cs.toArray (0,0) _ HA.out Tryz.underlying61 rfl (by rw[List.size_toArray,Nd.cs_length];kernel_rfl) ?_)
      | fail)
    go_ret
    exact ⟨by rw[HV.out,HVv.out];rfl,HB.out⟩
  by_cases hk3:x.kind=3
  · have HKd:=Lib.hid hk3
    rw[hk3] at c0
    clear hk3
    have HV:Hid (x.right n=(x.eqb ⟨3,noSt,x.a,x.b,false⟩&&aIn x.a n&&aIn x.b n)):=Lib.hid (by unfold Nd.right Nd.bare;simp[HKd.out])
    obtain ⟨v,hv⟩:∃v,x.eqb ⟨3,noSt,x.a,x.b,false⟩=v:=⟨_,rfl⟩
    have HVv:=Lib.hid hv
    have hq:∀W,(Op.equalIn 10000 61 (.agg x.cs.toArray) (.agg #[.int .i64 3,.int .u64 0,.int .u64 0,.int .u64 0,.int .u64 0,.int .i64 x.a,.int .i64 x.b,.bool false])).run Tryz.prog W=.ok v W:=fun W=>ndEq W x ⟨3,noSt,x.a,x.b,false⟩ v hv
    clear hv
    cases v
    · go_enter Tryz.func92,Tryz.ntmps92
      go_wp2_with (first
        | (with_reducible show wpList _ _ _ (⟨some 28,.load _ _,_,_,_,_⟩::_) _ _
           refine wpList_load_row_want (by rfl) 61 _ rfl w.heap.size rfl 61 x.cs.toArray (0,0) _ HA.out Tryz.underlying61 rfl (by rw[List.size_toArray,Nd.cs_length];kernel_rfl) ?_)
        | fail)
      go_ret
      exact ⟨by rw[HV.out,HVv.out];rfl,HB.out⟩
    · go_enter Tryz.func92,Tryz.ntmps92
      go_wp2_with (first
        | (with_reducible show wpList _ _ _ (⟨some 28,.load _ _,_,_,_,_⟩::_) _ _
           refine wpList_load_row_want (by rfl) 61 _ rfl w.heap.size rfl 61 x.cs.toArray (0,0) _ HA.out Tryz.underlying61 rfl (by rw[List.size_toArray,Nd.cs_length];kernel_rfl) ?_)
        | fail)
      refine (HH.out x.a _ HB.out).mono ?_
      rintro e w1 ⟨rfl,rfl⟩
      cases hai:aIn x.a n
      · have hai:=Lib.hid hai
        go_wp2_with fail
        go_ret
        exact ⟨by rw[HV.out,HVv.out,hai.out];rfl,HB.out⟩
      · have hai:=Lib.hid hai
        go_wp2_with fail
        refine (HH.out x.b _ HB.out).mono ?_
        rintro e w1 ⟨rfl,rfl⟩
        go_wp2_with fail
        go_ret
        exact ⟨by rw[HV.out,HVv.out,hai.out];rfl,HB.out⟩
  by_cases hk4:x.kind=4
  · have HKd:=Lib.hid hk4
    rw[hk4] at c0
    clear hk4
    have HV:Hid (x.right n=(x.eqb ⟨4,noSt,x.a,x.b,false⟩&&aIn x.a n&&aIn x.b n)):=Lib.hid (by unfold Nd.right Nd.bare;simp[HKd.out])
    obtain ⟨v,hv⟩:∃v,x.eqb ⟨4,noSt,x.a,x.b,false⟩=v:=⟨_,rfl⟩
    have HVv:=Lib.hid hv
    have hq:∀W,(Op.equalIn 10000 61 (.agg x.cs.toArray) (.agg #[.int .i64 4,.int .u64 0,.int .u64 0,.int .u64 0,.int .u64 0,.int .i64 x.a,.int .i64 x.b,.bool false])).run Tryz.prog W=.ok v W:=fun W=>ndEq W x ⟨4,noSt,x.a,x.b,false⟩ v hv
    clear hv
    cases v
    · go_enter Tryz.func92,Tryz.ntmps92
      go_wp2_with (first
        | (with_reducible show wpList _ _ _ (⟨some 28,.load _ _,_,_,_,_⟩::_) _ _
           refine wpList_load_row_want (by rfl) 61 _ rfl w.heap.size rfl 61 x.cs.toArray (0,0) _ HA.out Tryz.underlying61 rfl (by rw[List.size_toArray,Nd.cs_length];kernel_rfl) ?_)
        | fail)
      go_ret
      exact ⟨by rw[HV.out,HVv.out];rfl,HB.out⟩
    · go_enter Tryz.func92,Tryz.ntmps92
      go_wp2_with (first
        | (with_reducible show wpList _ _ _ (⟨some 28,.load _ _,_,_,_,_⟩::_) _ _
           refine wpList_load_row_want (by rfl) 61 _ rfl w.heap.size rfl 61 x.cs.toArray (0,0) _ HA.out Tryz.underlying61 rfl (by rw[List.size_toArray,Nd.cs_length];kernel_rfl) ?_)
        | fail)
      refine (HH.out x.a _ HB.out).mono ?_
      rintro e w1 ⟨rfl,rfl⟩
      cases hai:aIn x.a n
      · have hai:=Lib.hid hai
        go_wp2_with fail
        go_ret
        exact ⟨by rw[HV.out,HVv.out,hai.out];rfl,HB.out⟩
      · have hai:=Lib.hid hai
        go_wp2_with fail
        refine (HH.out x.b _ HB.out).mono ?_
        rintro e w1 ⟨rfl,rfl⟩
        go_wp2_with fail
        go_ret
        exact ⟨by rw[HV.out,HVv.out,hai.out];rfl,HB.out⟩
  by_cases hk5:x.kind=5
  · have HKd:=Lib.hid hk5
    rw[hk5] at c0
    clear hk5
    have HV:Hid (x.right n=(x.eqb ⟨5,noSt,x.a,x.b,false⟩&&aIn x.a n&&aIn x.b n)):=Lib.hid (by unfold Nd.right Nd.bare;simp[HKd.out])
    obtain ⟨v,hv⟩:∃v,x.eqb ⟨5,noSt,x.a,x.b,false⟩=v:=⟨_,rfl⟩
    have HVv:=Lib.hid hv
    have hq:∀W,(Op.equalIn 10000 61 (.agg x.cs.toArray) (.agg #[.int .i64 5,.int .u64 0,.int .u64 0,.int .u64 0,.int .u64 0,.int .i64 x.a,.int .i64 x.b,.bool false])).run Tryz.prog W=.ok v W:=fun W=>ndEq W x ⟨5,noSt,x.a,x.b,false⟩ v hv
    clear hv
    cases v
    · go_enter Tryz.func92,Tryz.ntmps92
      go_wp2_with (first
        | (with_reducible show wpList _ _ _ (⟨some 28,.load _ _,_,_,_,_⟩::_) _ _
           refine wpList_load_row_want (by rfl) 61 _ rfl w.heap.size rfl 61 x.cs.toArray (0,0) _ HA.out Tryz.underlying61 rfl (by rw[List.size_toArray,Nd.cs_length];kernel_rfl) ?_)
        | fail)
      go_ret
      exact ⟨by rw[HV.out,HVv.out];rfl,HB.out⟩
    · go_enter Tryz.func92,Tryz.ntmps92
      go_wp2_with (first
        | (with_reducible show wpList _ _ _ (⟨some 28,.load _ _,_,_,_,_⟩::_) _ _
           refine wpList_load_row_want (by rfl) 61 _ rfl w.heap.size rfl 61 x.cs.toArray (0,0) _ HA.out Tryz.underlying61 rfl (by rw[List.size_toArray,Nd.cs_length];kernel_rfl) ?_)
        | fail)
      refine (HH.out x.a _ HB.out).mono ?_
      rintro e w1 ⟨rfl,rfl⟩
      cases hai:aIn x.a n
      · have hai:=Lib.hid hai
        go_wp2_with fail
        go_ret
        exact ⟨by rw[HV.out,HVv.out,hai.out];rfl,HB.out⟩
      · have hai:=Lib.hid hai
        go_wp2_with fail
        refine (HH.out x.b _ HB.out).mono ?_
        rintro e w1 ⟨rfl,rfl⟩
        go_wp2_with fail
        go_ret
        exact ⟨by rw[HV.out,HVv.out,hai.out];rfl,HB.out⟩
  by_cases hk6:x.kind=6
  · have HKd:=Lib.hid hk6
    rw[hk6] at c0
    clear hk6
    have HV:Hid (x.right n=(x.eqb ⟨6,noSt,x.a,0,false⟩&&aIn x.a n)):=Lib.hid (by unfold Nd.right Nd.bare;simp[HKd.out])
    obtain ⟨v,hv⟩:∃v,x.eqb ⟨6,noSt,x.a,0,false⟩=v:=⟨_,rfl⟩
    have HVv:=Lib.hid hv
    have hq:∀W,(Op.equalIn 10000 61 (.agg x.cs.toArray) (.agg #[.int .i64 6,.int .u64 0,.int .u64 0,.int .u64 0,.int .u64 0,.int .i64 x.a,.int .i64 0,.bool false])).run Tryz.prog W=.ok v W:=fun W=>ndEq W x ⟨6,noSt,x.a,0,false⟩ v hv
    clear hv
    cases v
    · go_enter Tryz.func92,Tryz.ntmps92
      go_wp2_with (first
        | (with_reducible show wpList _ _ _ (⟨some 52,.load _ _,_,_,_,_⟩::_) _ _
           refine wpList_load_row_want (by rfl) 61 _ rfl w.heap.size rfl 61 x.cs.toArray (0,0) _ HA.out Tryz.underlying61 rfl (by rw[List.size_toArray,Nd.cs_length];kernel_rfl) ?_)
        | fail)
      go_ret
      exact ⟨by rw[HV.out,HVv.out];rfl,HB.out⟩
    · go_enter Tryz.func92,Tryz.ntmps92
      go_wp2_with (first
        | (with_reducible show wpList _ _ _ (⟨some 52,.load _ _,_,_,_,_⟩::_) _ _
           refine wpList_load_row_want (by rfl) 61 _ rfl w.heap.size rfl 61 x.cs.toArray (0,0) _ HA.out Tryz.underlying61 rfl (by rw[List.size_toArray,Nd.cs_length];kernel_rfl) ?_)
        | fail)
      refine (HH.out x.a _ HB.out).mono ?_
      rintro e w1 ⟨rfl,rfl⟩
      go_wp2_with fail
      go_ret
      exact ⟨by rw[HV.out,HVv.out];rfl,HB.out⟩
  by_cases hk7:x.kind=7
  · have HKd:=Lib.hid hk7
    rw[hk7] at c0
    clear hk7
    have HV:Hid (x.right n=(x.eqb ⟨7,noSt,x.a,0,false⟩&&aIn x.a n)):=Lib.hid (by unfold Nd.right Nd.bare;simp[HKd.out])
    obtain ⟨v,hv⟩:∃v,x.eqb ⟨7,noSt,x.a,0,false⟩=v:=⟨_,rfl⟩
    have HVv:=Lib.hid hv
    have hq:∀W,(Op.equalIn 10000 61 (.agg x.cs.toArray) (.agg #[.int .i64 7,.int .u64 0,.int .u64 0,.int .u64 0,.int .u64 0,.int .i64 x.a,.int .i64 0,.bool false])).run Tryz.prog W=.ok v W:=fun W=>ndEq W x ⟨7,noSt,x.a,0,false⟩ v hv
    clear hv
    cases v
    · go_enter Tryz.func92,Tryz.ntmps92
      go_wp2_with (first
        | (with_reducible show wpList _ _ _ (⟨some 52,.load _ _,_,_,_,_⟩::_) _ _
           refine wpList_load_row_want (by rfl) 61 _ rfl w.heap.size rfl 61 x.cs.toArray (0,0) _ HA.out Tryz.underlying61 rfl (by rw[List.size_toArray,Nd.cs_length];kernel_rfl) ?_)
        | fail)
      go_ret
      exact ⟨by rw[HV.out,HVv.out];rfl,HB.out⟩
    · go_enter Tryz.func92,Tryz.ntmps92
      go_wp2_with (first
        | (with_reducible show wpList _ _ _ (⟨some 52,.load _ _,_,_,_,_⟩::_) _ _
           refine wpList_load_row_want (by rfl) 61 _ rfl w.heap.size rfl 61 x.cs.toArray (0,0) _ HA.out Tryz.underlying61 rfl (by rw[List.size_toArray,Nd.cs_length];kernel_rfl) ?_)
        | fail)
      refine (HH.out x.a _ HB.out).mono ?_
      rintro e w1 ⟨rfl,rfl⟩
      go_wp2_with fail
      go_ret
      exact ⟨by rw[HV.out,HVv.out];rfl,HB.out⟩
  by_cases hk8:x.kind=8
  · have HKd:=Lib.hid hk8
    rw[hk8] at c0
    clear hk8
    have HV:Hid (x.right n=(x.eqb ⟨8,noSt,x.a,0,x.neg⟩&&aIn x.a 4)):=Lib.hid (by unfold Nd.right Nd.bare;simp[HKd.out])
    obtain ⟨v,hv⟩:∃v,x.eqb ⟨8,noSt,x.a,0,x.neg⟩=v:=⟨_,rfl⟩
    have HVv:=Lib.hid hv
    have hq:∀W,(Op.equalIn 10000 61 (.agg x.cs.toArray) (.agg #[.int .i64 8,.int .u64 0,.int .u64 0,.int .u64 0,.int .u64 0,.int .i64 x.a,.int .i64 0,.bool x.neg])).run Tryz.prog W=.ok v W:=fun W=>ndEq W x ⟨8,noSt,x.a,0,x.neg⟩ v hv
    clear hv
    cases v
    · go_enter Tryz.func92,Tryz.ntmps92
      go_wp2_with (first
        | (with_reducible show wpList _ _ _ (⟨some 67,.load _ _,_,_,_,_⟩::_) _ _
           refine wpList_load_row_want (by rfl) 61 _ rfl w.heap.size rfl 61 x.cs.toArray (0,0) _ HA.out Tryz.underlying61 rfl (by rw[List.size_toArray,Nd.cs_length];kernel_rfl) ?_)
        | fail)
      go_ret
      exact ⟨by rw[HV.out,HVv.out];rfl,HB.out⟩
    · by_cases ha0:0≤x.a
      · have HI:Hid (aIn x.a 4=decide (x.a<4)):=Lib.hid (by unfold aIn;rw[decide_eq_true ha0,Bool.true_and])
        have ha1:decide (0≤x.a)=true:=decide_eq_true ha0
        go_enter Tryz.func92,Tryz.ntmps92
        go_wp2_with (first
          | (with_reducible show wpList _ _ _ (⟨some 67,.load _ _,_,_,_,_⟩::_) _ _
             refine wpList_load_row_want (by rfl) 61 _ rfl w.heap.size rfl 61 x.cs.toArray (0,0) _ HA.out Tryz.underlying61 rfl (by rw[List.size_toArray,Nd.cs_length];kernel_rfl) ?_)
          | fail)
        go_ret
        exact ⟨by rw[HV.out,HVv.out,HI.out];rfl,HB.out⟩
      · have HI:Hid (aIn x.a 4=false):=Lib.hid (by unfold aIn;rw[decide_eq_false ha0,Bool.false_and])
        have ha1:decide (0≤x.a)=false:=decide_eq_false ha0
        go_enter Tryz.func92,Tryz.ntmps92
        go_wp2_with (first
          | (with_reducible show wpList _ _ _ (⟨some 67,.load _ _,_,_,_,_⟩::_) _ _
             refine wpList_load_row_want (by rfl) 61 _ rfl w.heap.size rfl 61 x.cs.toArray (0,0) _ HA.out Tryz.underlying61 rfl (by rw[List.size_toArray,Nd.cs_length];kernel_rfl) ?_)
          | fail)
        go_ret
        exact ⟨by rw[HV.out,HVv.out,HI.out];rfl,HB.out⟩
  have hb0:=(int_ne hk0).1
  have h0:=Lib.hid hk0
  have hb1:=(int_ne hk1).1
  have h1:=Lib.hid hk1
  have hb2:=(int_ne hk2).1
  have h2:=Lib.hid hk2
  have hb3:=(int_ne hk3).1
  have h3:=Lib.hid hk3
  have hb4:=(int_ne hk4).1
  have h4:=Lib.hid hk4
  have hb5:=(int_ne hk5).1
  have h5:=Lib.hid hk5
  have hb6:=(int_ne hk6).1
  have h6:=Lib.hid hk6
  have hb7:=(int_ne hk7).1
  have h7:=Lib.hid hk7
  have hb8:=(int_ne hk8).1
  have h8:=Lib.hid hk8
  clear hk0 hk1 hk2 hk3 hk4 hk5 hk6 hk7 hk8
  have HV:Hid (x.right n=false):=Lib.hid (by unfold Nd.right;simp[h0.out,h1.out,h2.out,h3.out,h4.out,h5.out,h6.out,h7.out,h8.out])
  go_enter Tryz.func92,Tryz.ntmps92
  go_wp2_with fail
  go_ret
  exact ⟨by rw[HV.out];rfl,HB.out⟩
theorem aFormed {w:World} {a:Value} {ns:List Nd} {F:Nat→Prop} (x:Nd) (h:AA w a ns F):Calls Tryz.prog 92 #[a,.agg x.cs.toArray] w fun e w'=>e=.returned (.bool (x.right ns.length))∧Below w.heap.size w w' :=
  aFormedOf a ns.length x w (fun i w' hb=>aHas i (h.next hb))
end Go.Proofs.YtgmpfnfomgadeaaGreat

/- Put of the arena; of a nil one. -/
set_option linter.unusedSimpArgs false
set_option linter.unusedVariables false
set_option maxHeartbeats 16000000
set_option maxRecDepth 100000
namespace Go.Proofs.YtgmpfnfomgadeaaGreat
open Go.RowKit Go.Maps
theorem look_ids {w:World} {m:Option Nat} {ns:List Nd} (h:(m=none∧ns=[])∨∃k,m=some k∧IdsAt w k ns) {x:Nd} (hx:NdFit x) :
    (Instr.lookup 56 (.map m) (.agg x.cs.toArray) true).run Tryz.prog w=.ok (.tuple #[.int .i64 (if findN ns x<ns.length then (findN ns x:Int) else 0),.bool (decide (findN ns x<ns.length))]) w:=by
  rcases h with ⟨rfl,rfl⟩ | ⟨k,rfl,hk⟩
  · exact Maps.look_nil true lawNode Tryz.underlying56 (zeroIntK w) (keyNode x hx)
  · exact hk.look hx
theorem aPutT {w:World} {a v:Value} {ns:List Nd} {F:Nat→Prop} {g:Nat} {m:Option Nat} (x:Nd) (h:AT w a ns F g m v) (hx:NdFit x) (hn:ns.length<20000) :
    Calls Tryz.prog 84 #[a,.agg x.cs.toArray] w fun e w'=>∃F',e=.returned (.tuple #[.int .i64 (putId ns x),.int .i64 (putE ns x)])∧AG w' a (putS ns x) F' g m∧(∀b,F' b→F b∨w.heap.size≤b)∧OffF F w w':=by
  obtain rfl:=h.ptr
  obtain ⟨A,c,rfl⟩:=h.row.len
  have hA:At (w.alloc (Obj.cells x.cs.toArray 61)) w.heap.size 61 x.cs.toArray:=At.new _ _ _
  have hB:Below w.heap.size w (w.alloc (Obj.cells x.cs.toArray 61)):=(Below.refl _ _).alloc (Nat.le_refl _) _
  have HB:=Lib.hid hB
  have HA:=Lib.hid hA
  have HX:=Lib.hid hx
  have HT:=Lib.hid (h.next hB)
  have HR:Hid (Calls Tryz.prog 92 #[.pointer (some ⟨g,0,none⟩),.agg #[.int .i64 x.kind,.int .u64 x.set.w0,.int .u64 x.set.w1,.int .u64 x.set.w2,.int .u64 x.set.w3,.int .i64 x.a,.int .i64 x.b,.bool x.neg]] (w.alloc (Obj.cells x.cs.toArray 61)) fun e w'=>e=.returned (.bool (x.right ns.length))∧Below (w.alloc (Obj.cells x.cs.toArray 61)).heap.size (w.alloc (Obj.cells x.cs.toArray 61)) w'):=Lib.hid (aFormed x ⟨g,m,_,HT.out⟩)
  obtain ⟨z0,z1,z2,z3,z4,z5,z6,z7⟩:=Nd.cells hA
  clear h hx hA hB
  go_enter Tryz.func84,Tryz.ntmps84
  go_wp2_with fail
  refine HR.out.mono ?_
  rintro e w3 ⟨rfl,hb3⟩
  clear z0 z1 z2 z3 z4 z5 z6 z7
  have HA3:=Lib.hid (HA.out.step hb3 rfl)
  have HB3:=Lib.hid (HB.out.trans (hb3.mono HB.out.size))
  have HT3:=Lib.hid (HT.out.next hb3)
  clear hb3
  obtain ⟨z0,z1,z2,z3,z4,z5,z6,z7⟩:=Nd.cells HA3.out
  have c0:=HT3.out.box.cell 0
  have c1:=HT3.out.box.cell 1
  cases hrt:x.right ns.length
  · have HPS:Hid (putS ns x=ns):=Lib.hid (by unfold putS;rw[hrt];rfl)
    have HPI:Hid (putId ns x=0):=Lib.hid (by unfold putId;rw[hrt];rfl)
    have HPE:Hid (putE ns x=1):=Lib.hid (by unfold putE;rw[hrt];rfl)
    clear hrt
    go_wp2_with fail
    go_ret2
    refine ⟨F,by rw[HPI.out,HPE.out];rfl,?_,fun b hb=>Or.inl hb,OffF.of HB3.out⟩
    rw[HPS.out]
    exact ⟨m,_,HT3.out,fun _ e=>e⟩
  · have HRt:=Lib.hid hrt
    have HPE:Hid (putE ns x=0):=Lib.hid (by unfold putE;rw[hrt];rfl)
    have HPI:Hid (putId ns x=(findN ns x:Int)):=Lib.hid (by unfold putId;rw[hrt];rfl)
    clear hrt
    have hlk:∀q,(Instr.lookup 56 (.map m) (.agg #[.int .i64 x.kind,.int .u64 x.set.w0,.int .u64 x.set.w1,.int .u64 x.set.w2,.int .u64 x.set.w3,.int .i64 x.a,.int .i64 x.b,.bool x.neg]) true).run Tryz.prog (w3.drewN q)=.ok (.tuple #[.int .i64 (if findN ns x<ns.length then (findN ns x:Int) else 0),.bool (decide (findN ns x<ns.length))]) (w3.drewN q):=fun q=>look_ids (w:=w3.drewN q) (by rcases HT3.out.ids with e | ⟨k,e,hk⟩;exact Or.inl e;exact Or.inr ⟨k,e,hk.kept rfl⟩) HX.out
    by_cases hlt:findN ns x<ns.length
    · rw[decide_eq_true hlt,if_pos hlt] at hlk
      have HPS:Hid (putS ns x=ns):=Lib.hid (by unfold putS;rw[if_pos HRt.out,if_pos hlt])
      clear hlt
      go_wp2_with fail
      go_quiet (fail)
      go_wp2_with fail
      go_ret2
      refine ⟨F,by rw[HPI.out,HPE.out];rfl,?_,fun b hb=>Or.inl hb,OffF.of (below_drewN' HB3.out _)⟩
      rw[HPS.out]
      exact ⟨m,_,HT3.out.keep (fun _ _=>rfl),fun _ e=>e⟩
    · rw[decide_eq_false hlt,if_neg hlt] at hlk
      have hfe:findN ns x=ns.length:=by have:=findN_le ns x;omega
      have HPS:Hid (putS ns x=ns++[x]):=Lib.hid (by unfold putS;rw[if_pos HRt.out,if_neg hlt])
      have HFe:=Lib.hid hfe
      have HLt:=Lib.hid hlt
      have hnm:¬(20000:Int)≤(ns.length:Int):=by omega
      have hnm2:decide ((20000:Int)≤(ns.length:Int))=false:=decide_eq_false hnm
      have HAd:Hid (∀q,Calls Tryz.prog 93 #[.pointer (some ⟨g,0,none⟩),.agg #[.int .i64 x.kind,.int .u64 x.set.w0,.int .u64 x.set.w1,.int .u64 x.set.w2,.int .u64 x.set.w3,.int .i64 x.a,.int .i64 x.b,.bool x.neg]] (w3.drewN q) fun e w'=>∃F',e=.returned (.int .i64 ns.length)∧AG w' (.pointer (some ⟨g,0,none⟩)) (ns++[x]) F' g m∧(∀b,F' b→F b∨(w3.drewN q).heap.size≤b)∧OffF F (w3.drewN q) w'):=Lib.hid (fun q=>aAddT x (HT3.out.keep (fun _ _=>rfl):AT (w3.drewN q) _ _ _ _ _ _) HX.out (by omega) HRt.out HLt.out)
      clear hlt hfe
      go_wp2_with fail
      go_quiet (fail)
      go_wp2_with fail
      refine (HAd.out _).mono ?_
      rintro e w5 ⟨F',rfl,hA5,hF5,ho5⟩
      go_wp2_with fail
      go_ret2
      refine ⟨F',by rw[HPI.out,HPE.out,HFe.out];rfl,by rw[HPS.out];exact hA5,fun b q=>?_,?_⟩
      · rcases hF5 b q with q | q
        · exact Or.inl q
        · exact Or.inr (Nat.le_trans HB3.out.size q)
      · exact (OffF.of (below_drewN' HB3.out _)).off ho5 (fun b q=>Or.inl q)
theorem aPutNo {w:World} {a v:Value} {ns:List Nd} {F:Nat→Prop} {g:Nat} {m:Option Nat} (x:Nd) (h:AT w a ns F g m v) (hx:NdFit x) (hrt:x.right ns.length=false) :
    Calls Tryz.prog 84 #[a,.agg x.cs.toArray] w fun e w'=>e=.returned (.tuple #[.int .i64 0,.int .i64 1])∧Below w.heap.size w w':=by
  obtain rfl:=h.ptr
  obtain ⟨A,c,rfl⟩:=h.row.len
  have hA:At (w.alloc (Obj.cells x.cs.toArray 61)) w.heap.size 61 x.cs.toArray:=At.new _ _ _
  have hB:Below w.heap.size w (w.alloc (Obj.cells x.cs.toArray 61)):=(Below.refl _ _).alloc (Nat.le_refl _) _
  have HB:=Lib.hid hB
  have HA:=Lib.hid hA
  have HX:=Lib.hid hx
  have HT:=Lib.hid (h.next hB)
  have HR:Hid (Calls Tryz.prog 92 #[.pointer (some ⟨g,0,none⟩),.agg #[.int .i64 x.kind,.int .u64 x.set.w0,.int .u64 x.set.w1,.int .u64 x.set.w2,.int .u64 x.set.w3,.int .i64 x.a,.int .i64 x.b,.bool x.neg]] (w.alloc (Obj.cells x.cs.toArray 61)) fun e w'=>e=.returned (.bool (x.right ns.length))∧Below (w.alloc (Obj.cells x.cs.toArray 61)).heap.size (w.alloc (Obj.cells x.cs.toArray 61)) w'):=Lib.hid (aFormed x ⟨g,m,_,HT.out⟩)
  obtain ⟨z0,z1,z2,z3,z4,z5,z6,z7⟩:=Nd.cells hA
  clear h hx hA hB
  go_enter Tryz.func84,Tryz.ntmps84
  go_wp2_with fail
  refine HR.out.mono ?_
  rintro e w3 ⟨rfl,hb3⟩
  clear z0 z1 z2 z3 z4 z5 z6 z7
  have HA3:=Lib.hid (HA.out.step hb3 rfl)
  have HB3:=Lib.hid (HB.out.trans (hb3.mono HB.out.size))
  have HT3:=Lib.hid (HT.out.next hb3)
  clear hb3
  obtain ⟨z0,z1,z2,z3,z4,z5,z6,z7⟩:=Nd.cells HA3.out
  have c0:=HT3.out.box.cell 0
  have c1:=HT3.out.box.cell 1
  rw[hrt]
  clear hrt
  go_wp2_with fail
  go_ret2
  exact ⟨rfl,HB3.out⟩
theorem aPut {w:World} {a:Value} {ns:List Nd} {F:Nat→Prop} (x:Nd) (h:AA w a ns F) (hx:NdFit x) (hn:ns.length<20000) :
    Calls Tryz.prog 84 #[a,.agg x.cs.toArray] w fun e w'=>∃F',e=.returned (.tuple #[.int .i64 (putId ns x),.int .i64 (putE ns x)])∧AA w' a (putS ns x) F'∧(∀b,F' b→F b∨w.heap.size≤b)∧OffF F w w':=by
  obtain ⟨g,m,v,h⟩:=h
  exact (aPutT x h hx hn).mono (fun _ _ ⟨F',h1,h2,h3⟩=>⟨F',h1,h2.aa,h3⟩)
end Go.Proofs.YtgmpfnfomgadeaaGreat

/- The code's arena does what others build on. -/
namespace Go.Proofs.YtgmpfnfomgadeaaGreat
open Go.RowKit
theorem arenaBig:ArenaBig AA where
  low:=AA.low
  keep:=AA.keep
  fine:=AA.fine
  max:=fun h=>by obtain ⟨g,m,v,h⟩:=h;exact h.max
  ptr:=fun h=>by obtain ⟨g,m,v,h⟩:=h;exact ⟨g,h.ptr⟩
  new:=aNew
  put:=fun x h hx hn=>aPut x h hx hn
  len:=fun h=>(aLen h).mono (by rintro e w1 ⟨rfl,rfl⟩;exact ⟨rfl,0,rfl⟩)
  node:=fun i h hi=>aNode i h hi
end Go.Proofs.YtgmpfnfomgadeaaGreat

/- The code's arena does what nodes are put together by. -/
set_option linter.unusedVariables false
namespace Go.Proofs.YtgmpfnfomgadeaaGreat
open Go.RowKit
theorem arenaMid:ArenaMid AA where
  low:=AA.low
  keep:=AA.keep
  fine:=AA.fine
  max:=fun h=>by obtain ⟨g,m,v,h⟩:=h;exact h.max
  ptr:=fun h=>by obtain ⟨g,m,v,h⟩:=h;exact ⟨g,h.ptr⟩
  put:=fun x h hx hn=>aPut x h hx hn
  putNo:=fun x h hx hr=>by obtain ⟨g,m,v,h⟩:=h;exact aPutNo x h hx hr
  len:=fun h=>aLen h
  node:=fun i h hi=>aNodeZ i h hi
def AM (m:Nat) (w:World) (a:Value) (ns:List Nd) (F:Nat→Prop):Prop:=∃g v,AT w a ns F g (some m) v
theorem AM.aa {m:Nat} {w:World} {a:Value} {ns:List Nd} {F:Nat→Prop} (h:AM m w a ns F):AA w a ns F:=by
  obtain ⟨g,v,h⟩:=h
  exact ⟨g,some m,v,h⟩
theorem midM (m:Nat):ArenaMid (AM m) where
  low:=fun h=>h.aa.low
  keep:=fun h hk=>by
    obtain ⟨g,v,h⟩:=h
    exact ⟨g,v,h.keep hk⟩
  fine:=fun h=>h.aa.fine
  max:=fun h=>arenaMid.max h.aa
  ptr:=fun h=>arenaMid.ptr h.aa
  put:=fun x h hx hn=>by
    obtain ⟨g,v,h⟩:=h
    refine (aPutT x h hx hn).mono ?_
    rintro e w' ⟨F',h1,⟨m',v',h2,h3⟩,h4⟩
    obtain rfl:=h3 m rfl
    exact ⟨F',h1,⟨g,v',h2⟩,h4⟩
  putNo:=fun x h hx hr=>by obtain ⟨g,v,h⟩:=h;exact aPutNo x h hx hr
  len:=fun h=>aLen h.aa
  node:=fun i h hi=>aNodeZ i h.aa hi
theorem arenaMap:ArenaMap AA where
  toArenaMid:=arenaMid
  part:=fun {w a ns F} h h0=>by
    obtain ⟨g,m,v,h⟩:=h
    rcases id h.ids with ⟨_,q⟩ | ⟨k,rfl,hk⟩
    · rw[q] at h0;exact absurd h0 (Nat.lt_irrefl _)
    · refine ⟨AM k,k,midM k,⟨g,v,h⟩,hk.lt,fun h=>h.aa,fun {w a ns F b o} h hb ho hn=>?_⟩
      obtain ⟨g,v,h⟩:=h
      rcases (h.own b).1 hb with rfl | q | q
      · have:=h.box
        unfold At at this
        rw[this] at ho
        injection ho with ho
        exact absurd ho.symm (hn _ _ _)
      · injection q with q;exact q.symm
      · obtain ⟨_,r⟩:=id h.row
        rcases r with ⟨e,_⟩ | ⟨g',cap,cur,e,hbg,hc,_⟩
        · rw[e] at q;cases q
        · rw[e] at q
          injection q with q
          rw[←q,hc] at ho
          injection ho with ho
          exact absurd ho.symm (hn _ _ _)
end Go.Proofs.YtgmpfnfomgadeaaGreat
