/- Joined: RefSize, RefFormed, TreeFormed. -/
import Derived.Test.YtgmpfnfomgadeaaGreatProg
import Derived.Test.YtgmpfnfomgadeaaGreatMaa
import Derived.Test.YtgmpfnfomgadeaaGreatMak
import Derived.Test.YtgmpfnfomgadeaaGreatMal
import Derived.Test.YtgmpfnfomgadeaaGreatMah
import Derived.Test.YtgmpfnfomgadeaaGreatMad
import Derived.Test.YtgmpfnfomgadeaaGreatMab
import Derived.Test.YtgmpfnfomgadeaaGreatTreeRight
/- What the reference's Size answers. -/
set_option maxHeartbeats 4000000
set_option maxRecDepth 100000
namespace Go.Proofs.YtgmpfnfomgadeaaGreat
open Go.RowKit
theorem refSize:∀(k:Nat) (t:Tr) (w:World),Tr.In w k t →
    Calls Tryz.prog 7 #[.agg t.cs.toArray] w fun e w'=>e=.returned (.int .i64 (sizeS k t))∧Below w.heap.size w w'
  | 0,_,_,h=>h.elim
  | k+1,t,w,h=>by
    have hlen:t.parts.length≤9223372036854775807:=by have:=h.2.1;omega
    have hn:=h.2.1.1
    have HI:=Lib.hid h
    have HC:=Lib.hid (At.tr_cell (At.new w 27 t.cs.toArray))
    clear h
    have hcell:=HC.out.2.1
    go_enter Tryz.func7,Tryz.ntmps7
    go_wp2_with fail
    go_loopw [3,9] (fun x i wr=>∃j:Nat,j≤t.parts.length∧i=.int .i64 j∧x=.int .i64 (sizeTo k t j)∧Hid (At wr w.heap.size 27 t.cs.toArray)∧Hid (Below w.heap.size w wr)) (fun _ i _=>t.parts.length-(intOf i).toNat)
    case atStart=>exact ⟨0,Nat.zero_le _,rfl,by rw[sizeTo_zero],Lib.hid (At.new _ _ _),Lib.hid ((Below.refl _ _).alloc (Nat.le_refl _) _)⟩
    case round =>
      obtain ⟨j,hj,rfl,rfl,hA,hB⟩:=hrel
      clear hcell
      have hd0:=sizeTo_ge k t j
      have hd1:=sizeTo_le k t j
      by_cases hlt:j<t.parts.length
      · have hcell:=(At.tr_cell hA.out).2.1
        obtain ⟨b,off,ha,hb,hr⟩:=HI.out.2.2.1 (by rw[hn];omega)
        have HR:=Lib.hid (range_below (hr j hlt) hb (Nat.le_refl _) hB.out)
        have HP:=Lib.hid (Tr.In.next (HI.out.2.2.2 j hlt) hB.out)
        have HD:=Lib.hid (sizeTo_succ k t j hlt)
        have he0:=sizeS_ge k t.parts[j]
        have he1:=sizeS_le k t.parts[j]
        obtain ⟨x,hx⟩:∃x:Int,sizeTo k t j=x:=⟨_,rfl⟩
        obtain ⟨y,hy⟩:∃y:Int,sizeS k t.parts[j]=y:=⟨_,rfl⟩
        rw[hx] at hd0 hd1 HD ⊢
        rw[hy] at he0 he1 HD
        have HY:=Lib.hid hy
        clear hx hy hr hb
        rw[ha] at hcell
        clear ha
        have hjz:(0:Int)≤(j:Int):=by omega
        have hjn:(j:Int)<(t.parts.length:Int):=by omega
        go_wp2_with (refine wpList_load_mid rfl 27 _ rfl b (off+j*9) rfl t.parts[j].cs _ HR.out Tryz.underlying27 rfl (by rw[Tr.cs_length];kernel_rfl) ?_)
        refine (refSize k t.parts[j] _ HP.out).mono ?_
        rintro e w3 ⟨rfl,hb3⟩
        rw[HY.out]
        have HA:=Lib.hid (hA.out.step hb3 rfl)
        have HB:=Lib.hid (below_step hB.out hb3 rfl rfl rfl rfl)
        clear hb3 hcell
        by_cases hg:1001<x+y
        · go_wp2_with fail
          exact ⟨⟨j+1,by omega,by go_num,by rw[HD.out,cut1001_yes hg],HA,HB⟩,by simp[intOf];omega⟩
        · have hg':x+y≤1001:=by omega
          go_wp2_with fail
          exact ⟨⟨j+1,by omega,by go_num,by rw[HD.out,cut1001_no (by omega)],HA,HB⟩,by simp[intOf];omega⟩
      · obtain rfl:j=t.parts.length:=by omega
        obtain ⟨c0,c1,c2,c3,c4⟩:=At.tr_cell hA.out
        have HT7:=Lib.hid (sizeTo_times k t)
        have HTn:=Lib.hid (sizeTo_plain k t)
        obtain ⟨x,hx⟩:∃x:Int,sizeTo k t t.parts.length=x:=⟨_,rfl⟩
        rw[hx] at hd0 hd1 HT7 HTn ⊢
        clear hx
        by_cases h7:t.kind=7
        · have d7:(t.kind==7)=true:=by rw[beq_iff_eq];exact h7
          have HS:=Lib.hid (HT7.out h7)
          clear HT7 HTn h7 c1
          have ht1:=timesLo_ge t.lo
          have ht2:=timesLo_le t.lo
          have hu1:=timesS_ge t.lo t.hi
          have hu2:=timesS_le t.lo t.hi
          obtain ⟨lo,hlo⟩:∃lo:Int,t.lo=lo:=⟨_,rfl⟩
          obtain ⟨hi,hhi⟩:∃hi:Int,t.hi=hi:=⟨_,rfl⟩
          rw[hlo] at c2 HS ht1 ht2 hu1 hu2
          rw[hhi] at c3 HS hu1 hu2
          clear hlo hhi
          by_cases h1:1<lo
          · by_cases h2:2000<lo
            · by_cases h3:2000<hi
              · skip
                have hT:timesS lo hi=2000:=by unfold timesS timesLo cut2000;(repeat' split)<;>omega
                rw[hT] at HS
                clear hT hu1 hu2 ht1 ht2
                have hm:=mul_bounds (x:=x) (T:=2000) hd0 hd1 (by omega) (by omega)
                have e1:wrap64 (x*2000)=x*2000:=wrap_same (by unfold I64;omega)
                have e2:wrap64 (x*2000+1)=x*2000+1:=wrap_same (by unfold I64;omega)
                by_cases hg:1001<x*2000+1
                · rw[cut1001_yes hg] at HS
                  go_wp2_with fail
                  go_ret
                  exact ⟨ret_int HS.out,hB.out⟩
                · rw[cut1001_no hg] at HS
                  have hg':x*2000+1≤1001:=by omega
                  go_wp2_with fail
                  go_ret
                  exact ⟨ret_int HS.out,hB.out⟩
              · skip
                have hT:timesS lo hi=2000:=by unfold timesS timesLo cut2000;(repeat' split)<;>omega
                rw[hT] at HS
                clear hT hu1 hu2 ht1 ht2
                have hm:=mul_bounds (x:=x) (T:=2000) hd0 hd1 (by omega) (by omega)
                have e1:wrap64 (x*2000)=x*2000:=wrap_same (by unfold I64;omega)
                have e2:wrap64 (x*2000+1)=x*2000+1:=wrap_same (by unfold I64;omega)
                by_cases hg:1001<x*2000+1
                · rw[cut1001_yes hg] at HS
                  go_wp2_with fail
                  go_ret
                  exact ⟨ret_int HS.out,hB.out⟩
                · rw[cut1001_no hg] at HS
                  have hg':x*2000+1≤1001:=by omega
                  go_wp2_with fail
                  go_ret
                  exact ⟨ret_int HS.out,hB.out⟩
            · by_cases h3:lo<hi
              · by_cases h4:2000<hi
                · skip
                  have hT:timesS lo hi=2000:=by unfold timesS timesLo cut2000;(repeat' split)<;>omega
                  rw[hT] at HS
                  clear hT hu1 hu2 ht1 ht2
                  have hm:=mul_bounds (x:=x) (T:=2000) hd0 hd1 (by omega) (by omega)
                  have e1:wrap64 (x*2000)=x*2000:=wrap_same (by unfold I64;omega)
                  have e2:wrap64 (x*2000+1)=x*2000+1:=wrap_same (by unfold I64;omega)
                  by_cases hg:1001<x*2000+1
                  · rw[cut1001_yes hg] at HS
                    go_wp2_with fail
                    go_ret
                    exact ⟨ret_int HS.out,hB.out⟩
                  · rw[cut1001_no hg] at HS
                    have hg':x*2000+1≤1001:=by omega
                    go_wp2_with fail
                    go_ret
                    exact ⟨ret_int HS.out,hB.out⟩
                · skip
                  have hT:timesS lo hi=hi:=by unfold timesS timesLo cut2000;(repeat' split)<;>omega
                  rw[hT] at HS
                  clear hT hu1 hu2 ht1 ht2
                  have hm:=mul_bounds (x:=x) (T:=hi) hd0 hd1 (by omega) (by omega)
                  have e1:wrap64 (x*hi)=x*hi:=wrap_same (by unfold I64;omega)
                  have e2:wrap64 (x*hi+1)=x*hi+1:=wrap_same (by unfold I64;omega)
                  by_cases hg:1001<x*hi+1
                  · rw[cut1001_yes hg] at HS
                    go_wp2_with fail
                    go_ret
                    exact ⟨ret_int HS.out,hB.out⟩
                  · rw[cut1001_no hg] at HS
                    have hg':x*hi+1≤1001:=by omega
                    go_wp2_with fail
                    go_ret
                    exact ⟨ret_int HS.out,hB.out⟩
              · skip
                have hT:timesS lo hi=lo:=by unfold timesS timesLo cut2000;(repeat' split)<;>omega
                rw[hT] at HS
                clear hT hu1 hu2 ht1 ht2
                have hm:=mul_bounds (x:=x) (T:=lo) hd0 hd1 (by omega) (by omega)
                have e1:wrap64 (x*lo)=x*lo:=wrap_same (by unfold I64;omega)
                have e2:wrap64 (x*lo+1)=x*lo+1:=wrap_same (by unfold I64;omega)
                by_cases hg:1001<x*lo+1
                · rw[cut1001_yes hg] at HS
                  go_wp2_with fail
                  go_ret
                  exact ⟨ret_int HS.out,hB.out⟩
                · rw[cut1001_no hg] at HS
                  have hg':x*lo+1≤1001:=by omega
                  go_wp2_with fail
                  go_ret
                  exact ⟨ret_int HS.out,hB.out⟩
          · by_cases h3:1<hi
            · by_cases h4:2000<hi
              · skip
                have hT:timesS lo hi=2000:=by unfold timesS timesLo cut2000;(repeat' split)<;>omega
                rw[hT] at HS
                clear hT hu1 hu2 ht1 ht2
                have hm:=mul_bounds (x:=x) (T:=2000) hd0 hd1 (by omega) (by omega)
                have e1:wrap64 (x*2000)=x*2000:=wrap_same (by unfold I64;omega)
                have e2:wrap64 (x*2000+1)=x*2000+1:=wrap_same (by unfold I64;omega)
                by_cases hg:1001<x*2000+1
                · rw[cut1001_yes hg] at HS
                  go_wp2_with fail
                  go_ret
                  exact ⟨ret_int HS.out,hB.out⟩
                · rw[cut1001_no hg] at HS
                  have hg':x*2000+1≤1001:=by omega
                  go_wp2_with fail
                  go_ret
                  exact ⟨ret_int HS.out,hB.out⟩
              · skip
                have hT:timesS lo hi=hi:=by unfold timesS timesLo cut2000;(repeat' split)<;>omega
                rw[hT] at HS
                clear hT hu1 hu2 ht1 ht2
                have hm:=mul_bounds (x:=x) (T:=hi) hd0 hd1 (by omega) (by omega)
                have e1:wrap64 (x*hi)=x*hi:=wrap_same (by unfold I64;omega)
                have e2:wrap64 (x*hi+1)=x*hi+1:=wrap_same (by unfold I64;omega)
                by_cases hg:1001<x*hi+1
                · rw[cut1001_yes hg] at HS
                  go_wp2_with fail
                  go_ret
                  exact ⟨ret_int HS.out,hB.out⟩
                · rw[cut1001_no hg] at HS
                  have hg':x*hi+1≤1001:=by omega
                  go_wp2_with fail
                  go_ret
                  exact ⟨ret_int HS.out,hB.out⟩
            · skip
              have hT:timesS lo hi=1:=by unfold timesS timesLo cut2000;(repeat' split)<;>omega
              rw[hT,Int.mul_one] at HS
              clear hT hu1 hu2 ht1 ht2
              have e2:wrap64 (x+1)=x+1:=wrap_same (by unfold I64;omega)
              by_cases hg:1001<x+1
              · rw[cut1001_yes hg] at HS
                go_wp2_with fail
                go_ret
                exact ⟨ret_int HS.out,hB.out⟩
              · rw[cut1001_no hg] at HS
                have hg':x+1≤1001:=by omega
                go_wp2_with fail
                go_ret
                exact ⟨ret_int HS.out,hB.out⟩
        · have d7:(t.kind==7)=false:=by rw[beq_eq_false_iff_ne];exact h7
          have HS:=Lib.hid (HTn.out h7)
          clear HT7 HTn h7 c1 c2 c3
          by_cases hg:1001<x+1
          · rw[cut1001_yes hg] at HS
            go_wp2_with fail
            go_ret
            exact ⟨by rw[←HS.out];rfl,hB.out⟩
          · rw[cut1001_no hg] at HS
            have hg':x+1≤1001:=by omega
            go_wp2_with fail
            go_ret
            exact ⟨by rw[←HS.out];rfl,hB.out⟩
end Go.Proofs.YtgmpfnfomgadeaaGreat

/- What the reference's formed and Formed answer. -/
set_option linter.unusedSimpArgs false
set_option maxHeartbeats 2000000
set_option maxRecDepth 100000
namespace Go.Proofs.YtgmpfnfomgadeaaGreat
open Go.RowKit
theorem formed_out (k:Nat) (t:Tr) (w:World) (hk:t.kind<0∨11<t.kind) :
    Calls Tryz.prog 19 #[.agg t.cs.toArray] w fun e w'=>e=.returned (.bool (formedS (k+1) t))∧Below w.heap.size w w':=by
  have HF:=Lib.hid (formedS_own (k:=k) (ownF_range hk))
  have HA0:=Lib.hid (At.new w 27 t.cs.toArray)
  obtain ⟨c0,c5,c6,c7,c8⟩:=At.tr_cell HA0.out
  have k3:=(int_ne (show ¬t.kind=3 by omega)).1
  have k4:=(int_ne (show ¬t.kind=4 by omega)).1
  have k5:=(int_ne (show ¬t.kind=5 by omega)).1
  have k6:=(int_ne (show ¬t.kind=6 by omega)).1
  have k7:=(int_ne (show ¬t.kind=7 by omega)).1
  have k8:=(int_ne (show ¬t.kind=8 by omega)).1
  have k9:=(int_ne (show ¬t.kind=9 by omega)).1
  rcases hk with hk | hk
  · have kl:=dec_t hk
    clear hk
    go_enter Tryz.func19,Tryz.ntmps19
    go_wp2_with fail
    go_ret
    exact ⟨ret_bool HF.out.symm,(Below.refl _ _).alloc (Nat.le_refl _) _⟩
  · have kl:=dec_f (show ¬t.kind<0 by omega)
    have kh:=dec_t hk
    clear hk
    go_enter Tryz.func19,Tryz.ntmps19
    go_wp2_with fail
    go_ret
    exact ⟨ret_bool HF.out.symm,(Below.refl _ _).alloc (Nat.le_refl _) _⟩
theorem refformed:∀k,FormedAt k
  | 0=>fun _ _ h=>h.elim
  | k+1=>fun t w h=>by
    have ih:=refformed k
    by_cases h0:t.kind<0∨11<t.kind
    · exact formed_out k t w h0
    by_cases h2:t.kind=2
    · exact formed_2 k ih t w h h2
    by_cases h3:t.kind=3
    · exact formed_3 k ih t w h h3
    by_cases h4:t.kind=4
    · exact formed_4 k ih t w h h4
    by_cases h5:t.kind=5
    · exact formed_5 k ih t w h h5
    by_cases h6:t.kind=6
    · exact formed_6 k ih t w h h6
    by_cases h7:t.kind=7
    · exact formed_7 k ih t w h h7
    by_cases h8:t.kind=8
    · exact formed_8 k ih t w h h8
    by_cases h9:t.kind=9
    · exact formed_9 k ih t w h h9
    exact formed_A k ih t w h (by omega)
def isFormed (k:Nat) (t:Tr):Bool:=decide (deepS k 40 t<41)&&(formedS k t&&decide (sizeS k t<1001))
theorem refFormed (k:Nat) (t:Tr) (w:World) (h:Tr.In w k t) :
    Calls Tryz.prog 6 #[.agg t.cs.toArray] w fun e w'=>e=.returned (.bool (isFormed k t))∧Below w.heap.size w w':=by
  have HI:=Lib.hid h
  clear h
  have hA:At (w.alloc (Obj.cells t.cs.toArray 27)) w.heap.size 27 t.cs.toArray:=At.new _ _ _
  have hB:Below w.heap.size w (w.alloc (Obj.cells t.cs.toArray 27)):=(Below.refl _ _).alloc (Nat.le_refl _) _
  obtain ⟨d,hd⟩:∃d:Int,deepS k 40 t=d:=⟨_,rfl⟩
  obtain ⟨f,hf⟩:∃f:Bool,formedS k t=f:=⟨_,rfl⟩
  obtain ⟨s,hs⟩:∃s:Int,sizeS k t=s:=⟨_,rfl⟩
  have HD:=Lib.hid hd
  have HF:=Lib.hid hf
  have HS:=Lib.hid hs
  have HR:Hid (isFormed k t=(decide (d<41)&&(f&&decide (s<1001)))):=by unfold isFormed;rw[hd,hf,hs];exact rfl
  clear hd hf hs
  go_enter Tryz.func6,Tryz.ntmps6
  go_wp2_with (first | (refine wpList_load_row rfl 27 _ rfl w.heap.size rfl 27 t.cs.toArray (0,0) _ hA Tryz.underlying27 rfl (by kernel_rfl) ?_) | fail)
  refine (refDeep k 40 t _ (by omega) (by omega) (HI.out.next hB)).mono ?_
  rintro e w1 ⟨rfl,hb1⟩
  rw[HD.out]
  have hA:=hA.step hb1 rfl
  have hB:=below_step hB hb1 rfl rfl rfl rfl
  clear hb1
  by_cases h1:d<41
  · have d1:=dec_t h1
    go_wp2_with (first | (refine wpList_load_row_want (by rfl) 27 _ rfl w.heap.size rfl 27 t.cs.toArray (0,0) _ hA Tryz.underlying27 rfl (by kernel_rfl) ?_) | fail)
    refine (refformed k t _ (HI.out.next hB)).mono ?_
    rintro e w2 ⟨rfl,hb2⟩
    rw[HF.out]
    have hA:=hA.step hb2 rfl
    have hB:=below_step hB hb2 rfl rfl rfl rfl
    clear hb2
    cases f
    · go_wp2_with fail
      go_ret
      exact ⟨ret_bool (by rw[HR.out];simp),hB⟩
    · go_wp2_with (first | (refine wpList_load_row_want (by rfl) 27 _ rfl w.heap.size rfl 27 t.cs.toArray (0,0) _ hA Tryz.underlying27 rfl (by kernel_rfl) ?_) | fail)
      refine (refSize k t _ (HI.out.next hB)).mono ?_
      rintro e w3 ⟨rfl,hb3⟩
      rw[HS.out]
      have hB:=below_step hB hb3 rfl rfl rfl rfl
      clear hb3
      go_wp2_with fail
      go_ret
      exact ⟨ret_bool (by rw[HR.out];simp[h1]),hB⟩
  · have d1:=dec_f h1
    have HR2:Hid (isFormed k t=false):=by rw[HR.out,d1,Bool.false_and];exact rfl
    go_wp2_with fail
    go_ret
    exact ⟨ret_bool HR2.out.symm,hB⟩
end Go.Proofs.YtgmpfnfomgadeaaGreat

/- What tree's formedAlone, allFormed, sizeFrom, Size and Formed answer. -/
set_option linter.unusedSimpArgs false
set_option linter.unusedVariables false
set_option maxHeartbeats 4000000
set_option maxRecDepth 100000
namespace Go.Proofs.YtgmpfnfomgadeaaGreat
open Go.RowKit
def lokB (t:Tr):Bool:=decide (t.kind=2∨t.set.eqb St.nil=true)
def negB (t:Tr):Bool:=decide (t.kind=8∨t.kind=9∨t.neg=false)
theorem own_split (t:Tr):ownF t=(rpB t&&(rtB t&&(lokB t&&negB t))):=by
  unfold ownF rpB rtB lokB negB
  rw[←Bool.decide_and,←Bool.decide_and,←Bool.decide_and]
  apply decide_eq_decide.2
  constructor
  · rintro ⟨a,b,c,d,e,f⟩;exact ⟨⟨a,b⟩,⟨e,f⟩,c,d⟩
  · rintro ⟨⟨a,b⟩,⟨e,f⟩,c,d⟩;exact ⟨a,b,c,d,e,f⟩
theorem treeFormedAlone (t:Tr) (w:World) (hn:t.n=t.parts.length) (hl:t.parts.length≤9223372036854775807) :
    Calls Tryz.prog 48 #[.agg t.cs.toArray] w fun e w'=>e=.returned (.bool (ownF t))∧Below w.heap.size w w':=by
  have hA:At (w.alloc (Obj.cells t.cs.toArray 27)) w.heap.size 27 t.cs.toArray:=At.new _ _ _
  have hB:Below w.heap.size w (w.alloc (Obj.cells t.cs.toArray 27)):=(Below.refl _ _).alloc (Nat.le_refl _) _
  have HO:=Lib.hid (own_split t)
  obtain ⟨p,hp⟩:∃p:Bool,rpB t=p:=⟨_,rfl⟩
  obtain ⟨r,hr⟩:∃r:Bool,rtB t=r:=⟨_,rfl⟩
  have HP:=Lib.hid hp
  have HR:=Lib.hid hr
  have HN:=Lib.hid hn
  clear hp hr hn
  go_enter Tryz.func48,Tryz.ntmps48
  go_wp2_with (first | (refine wpList_load_row rfl 27 _ rfl w.heap.size rfl 27 t.cs.toArray (0,0) _ hA Tryz.underlying27 rfl (by kernel_rfl) ?_) | fail)
  refine (treeRightParts t _ HN.out hl).mono ?_
  rintro e w1 ⟨rfl,hb1⟩
  rw[HP.out]
  have hA:=hA.step hb1 rfl
  have hB:=below_step hB hb1 rfl rfl rfl rfl
  clear hb1
  cases p
  · have HF:Hid (ownF t=false):=by rw[HO.out,HP.out];exact rfl
    go_wp2_with fail
    go_ret
    exact ⟨ret_bool HF.out.symm,hB⟩
  · go_wp2_with (first | (refine wpList_load_row_want (by rfl) 27 _ rfl w.heap.size rfl 27 t.cs.toArray (0,0) _ hA Tryz.underlying27 rfl (by kernel_rfl) ?_) | fail)
    refine (treeRightTimes t _ HN.out hl).mono ?_
    rintro e w2 ⟨rfl,hb2⟩
    rw[HR.out]
    have hA:=hA.step hb2 rfl
    have hB:=below_step hB hb2 rfl rfl rfl rfl
    clear hb2
    cases r
    · have HF:Hid (ownF t=false):=by rw[HO.out,HP.out,HR.out];exact rfl
      go_wp2_with fail
      go_ret
      exact ⟨ret_bool HF.out.symm,hB⟩
    · have HO2:Hid (ownF t=(lokB t&&negB t)):=by rw[HO.out,HP.out,HR.out];exact rfl
      obtain ⟨c0,c5,c6,c7,c8⟩:=At.tr_cell hA
      obtain ⟨s1,s2,s3,s4⟩:=At.tr_set hA
      have HA:=Lib.hid hA
      clear hA c5 c6 c7
      have last:∀v:Bool,lokB t=v→Hid (ownF t=(v&&negB t)):=fun v h=>by rw[HO2.out,h];exact rfl
      by_cases h2:t.kind=2
      · have d2:=(int_eq h2).1
        have d8:=(int_ne (show ¬t.kind=8 by omega)).1
        have d9:=(int_ne (show ¬t.kind=9 by omega)).1
        have HL:=last true (decide_eq_true (Or.inl h2))
        obtain ⟨g,hg⟩:∃g:Bool,t.neg=g:=⟨_,rfl⟩
        have HG:Hid (negB t=!g):=Lib.hid (by rw[←hg];exact negB_at (by omega) (by omega))
        rw[hg] at c8
        clear hg h2 last
        cases g
        · go_wp2_with fail
          go_ret
          exact ⟨ret_bool (by rw[HL.out,HG.out];rfl),hB⟩
        · go_wp2_with fail
          go_ret
          exact ⟨ret_bool (by rw[HL.out,HG.out];rfl),hB⟩
      · have d2:=(int_ne h2).1
        by_cases hs:t.set.eqb St.nil=true
        · have ds:∀W,(Op.equalIn 10000 24 (.agg #[.int .u64 t.set.w0,.int .u64 t.set.w1,.int .u64 t.set.w2,.int .u64 t.set.w3]) (.agg #[.int .u64 0,.int .u64 0,.int .u64 0,.int .u64 0])).run Tryz.prog W=.ok true W:=fun W=>setEq W t.set St.nil true hs
          have HL:=last true (decide_eq_true (Or.inr hs))
          clear last hs h2
          by_cases h8:t.kind=8
          · have d8:=(int_eq h8).1
            have HG:Hid (negB t=true):=decide_eq_true (Or.inl h8)
            clear h8
            go_wp2_with fail
            go_ret
            exact ⟨ret_bool (by rw[HL.out,HG.out];rfl),hB⟩
          by_cases h9:t.kind=9
          · have d8:=(int_ne h8).1
            have d9:=(int_eq h9).1
            have HG:Hid (negB t=true):=decide_eq_true (Or.inr (Or.inl h9))
            clear h8 h9
            go_wp2_with fail
            go_ret
            exact ⟨ret_bool (by rw[HL.out,HG.out];rfl),hB⟩
          · have d8:=(int_ne h8).1
            have d9:=(int_ne h9).1
            obtain ⟨g,hg⟩:∃g:Bool,t.neg=g:=⟨_,rfl⟩
            have HG:Hid (negB t=!g):=Lib.hid (by rw[←hg];exact negB_at h8 h9)
            rw[hg] at c8
            clear hg h8 h9
            cases g
            · go_wp2_with fail
              go_ret
              exact ⟨ret_bool (by rw[HL.out,HG.out];rfl),hB⟩
            · go_wp2_with fail
              go_ret
              exact ⟨ret_bool (by rw[HL.out,HG.out];rfl),hB⟩
        · have hs':t.set.eqb St.nil=false:=by simpa using hs
          have ds:∀W,(Op.equalIn 10000 24 (.agg #[.int .u64 t.set.w0,.int .u64 t.set.w1,.int .u64 t.set.w2,.int .u64 t.set.w3]) (.agg #[.int .u64 0,.int .u64 0,.int .u64 0,.int .u64 0])).run Tryz.prog W=.ok false W:=fun W=>setEq W t.set St.nil false hs'
          have HL:=last false (decide_eq_false (fun q=>by rcases q with q | q;exact h2 q;exact hs q))
          clear last hs hs' h2
          go_wp2_with fail
          go_ret
          exact ⟨ret_bool (by rw[HL.out];rfl),hB⟩
def AllFormedAt (k:Nat):Prop:=∀(t:Tr) (w:World),Tr.In w k t→Calls Tryz.prog 38 #[.agg t.cs.toArray] w fun e w'=>e=.returned (.bool (formedS k t))∧Below w.heap.size w w'
theorem treeAllFormed:∀k,AllFormedAt k
  | 0=>fun _ _ h=>h.elim
  | k+1=>fun t w h=>by
    have hlen:t.parts.length≤9223372036854775807:=by have:=h.2.1;omega
    have HN:=Lib.hid h.2.1.1
    have HI:=Lib.hid h
    have HIH:=Lib.hid (treeAllFormed k)
    clear h
    have hA:At (w.alloc (Obj.cells t.cs.toArray 27)) w.heap.size 27 t.cs.toArray:=At.new _ _ _
    have hB:Below w.heap.size w (w.alloc (Obj.cells t.cs.toArray 27)):=(Below.refl _ _).alloc (Nat.le_refl _) _
    obtain ⟨o,ho⟩:∃o:Bool,ownF t=o:=⟨_,rfl⟩
    have HO:=Lib.hid ho
    clear ho
    go_enter Tryz.func38,Tryz.ntmps38
    go_wp2_with (first | (refine wpList_load_row rfl 27 _ rfl w.heap.size rfl 27 t.cs.toArray (0,0) _ hA Tryz.underlying27 rfl (by kernel_rfl) ?_) | fail)
    refine (treeFormedAlone t _ HN.out hlen).mono ?_
    rintro e w1 ⟨rfl,hb1⟩
    rw[HO.out]
    have hA:=hA.step hb1 rfl
    have hB:=below_step hB hb1 rfl rfl rfl rfl
    clear hb1
    cases o
    · go_wp2_with fail
      go_ret
      exact ⟨ret_bool (formedS_own HO.out).symm,hB⟩
    · have HA:=Lib.hid hA
      have HB:=Lib.hid hB
      have c5:=(At.tr_cell hA).2.1
      rw[HN.out] at c5
      clear hA hB
      go_wp2_with fail
      go_loopw [11] (fun i wr=>∃j:Nat,j≤t.parts.length∧i=.int .i64 j∧Hid (formedTo k t j=true)∧Hid (At wr w.heap.size 27 t.cs.toArray)∧Hid (Below w.heap.size w wr)) (fun i _=>t.parts.length-(intOf i).toNat)
      case atStart=>exact ⟨0,Nat.zero_le _,rfl,Lib.hid (formedTo_zero _),HA,HB⟩
      case round =>
        clear HA HB c5
        obtain ⟨j,hj,rfl,hT,hA,hB⟩:=hrel
        by_cases hlt:j<t.parts.length
        · obtain ⟨b,off,ha,hb,hr⟩:=HI.out.2.2.1 (by rw[HN.out];omega)
          have HR:=Lib.hid (range_below (hr j hlt) hb (Nat.le_refl _) hB.out)
          have HP:=Lib.hid (Tr.In.next (HI.out.2.2.2 j hlt) hB.out)
          have hA2:=boxW_at wr t.parts[j]
          have HP2:=Lib.hid (HP.out.next (boxW_next wr t.parts[j]))
          clear hr hb
          rw[ha]
          clear ha
          have hjz:(0:Int)≤(j:Int):=by omega
          have hjn:(j:Int)<(t.parts.length:Int):=by omega
          obtain ⟨v,hv⟩:∃v:Bool,formedS k t.parts[j]=v:=⟨_,rfl⟩
          have HV:=Lib.hid hv
          clear hv
          go_wp2_with (first
            | (refine wpList_load_mid rfl 27 _ rfl b (off+j*9) rfl t.parts[j].cs _ HR.out Tryz.underlying27 rfl (by rw[Tr.cs_length];kernel_rfl) ?_)
            | (refine wpList_store_row rfl 27 _ _ rfl wr.heap.size t.parts[j].cs.toArray rfl rfl 27 Tr.blank.cs.toArray (At.new _ _ _) (by kernel_rfl) rfl (Tr.one _) ?_;change Exit.then _ _ _ _ (boxW wr t.parts[j]))
            | (refine wpList_load_row rfl 27 _ rfl wr.heap.size rfl 27 t.parts[j].cs.toArray (0,0) _ hA2 Tryz.underlying27 rfl (by kernel_rfl) ?_) | fail)
          refine (HIH.out t.parts[j] _ HP2.out).mono ?_
          rintro e w3 ⟨rfl,hb3⟩
          rw[HV.out]
          have HBx:=boxW_below hB.out t.parts[j]
          have HA:=Lib.hid ((hA.out.below (boxW_next wr t.parts[j]) hA.out.lt).below hb3 (by rw[boxW_size];have:=hA.out.lt;omega))
          have HB:=Lib.hid (HBx.trans (hb3.mono HBx.size))
          clear hb3 hA2 HBx
          cases v
          · go_wp2_with fail
            go_ret
            exact ⟨ret_bool (formedS_not hlt HV.out).symm,HB.out⟩
          · go_wp2_with fail
            exact ⟨⟨j+1,by omega,by go_num,Lib.hid (formedTo_succ hlt hT.out HV.out),HA,HB⟩,by simp[intOf];omega⟩
        · obtain rfl:j=t.parts.length:=by omega
          have HF:=Lib.hid (formedS_yes HO.out hT.out)
          go_wp2_with fail
          go_ret
          exact ⟨ret_bool HF.out.symm,hB.out⟩
end Go.Proofs.YtgmpfnfomgadeaaGreat
