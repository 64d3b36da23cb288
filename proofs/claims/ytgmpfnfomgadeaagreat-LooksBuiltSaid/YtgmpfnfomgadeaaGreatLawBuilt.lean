/- bolterlaw13.LooksBuilt. -/
import Derived.Test.YtgmpfnfomgadeaaGreatMbd
import Derived.Test.YtgmpfnfomgadeaaGreatMbk
import Derived.Test.YtgmpfnfomgadeaaGreatMam
import Derived.Test.YtgmpfnfomgadeaaGreatNodeSpans
import Derived.Test.YtgmpfnfomgadeaaGreatMbj
import Derived.Deep.QuietTactic
import Derived.BigQuiet
set_option linter.unusedSimpArgs false
set_option linter.unusedVariables false
set_option maxHeartbeats 16000000
set_option maxRecDepth 100000
namespace Go.Proofs.YtgmpfnfomgadeaaGreat
open Go.RowKit
theorem spansB (nm:List Nd) (l bits:List Nat) (A7 A B:Option Addr) (c7 ca cb n N i:Nat) (hn:n=l.length) (hN:N=n+1) (h100:n≤100) (hnm:nm.length≤100000) (hok:∀j,j<nm.length→NdOk (ndAt nm j) j) (hi:i<nm.length) (w0:World)
    (hv:NdsAt w0 (.slice A7 nm.length c7) nm) (hb:IsBytes w0 A n l) (hbits:IsBytes w0 B N bits) :
    Calls Tryz.prog 12 #[.slice A7 nm.length c7,.slice A n ca,.slice B N cb] w0 fun e w'=>∃g m cap ga ra,e=.returned (.slice (some ⟨g,0,none⟩) m cap)∧i<m∧w'.cell? ⟨g,i,none⟩=some (.slice (some ⟨ga,0,none⟩) N N)∧TabAt w' 51 4 w0.heap.size ga N ra (nodeT l bits nm i)∧g<w'.heap.size∧Below w0.heap.size w0 w':=by
  subst hn
  refine (refNodeSpans nm l bits _ A B ca cb N hN h100 (by omega) hok w0 hv hb hbits).mono ?_
  rintro e w' ⟨v,ts,rfl,hts,hbl⟩
  have hlen:=hts.len
  rw[nodesF_length] at hlen
  obtain ⟨g,cap,rfl,_,hg⟩:=hts.form (by omega)
  have h1:i<ts.length:=by omega
  have h2:i<(nodesF l bits nm nm.length).length:=by rw[nodesF_length];exact hi
  have ht:=hts.tab i h1 h2
  have hc:=hts.cell i h1
  have e:nodeT l bits nm i=(nodesF l bits nm nm.length)[i]:=by unfold nodeT fAt;rw[Int.toNat_natCast,List.getElem?_eq_getElem h2];rfl
  rw[←e] at ht
  exact ⟨g,_,cap,_,_,rfl,h1,hc,ht,hg,hbl⟩
theorem formed_ofK {k:Nat} {t:Tr} (h:isFormed k t=true):formedS k t=true:=by
  unfold isFormed at h
  rw[Bool.and_eq_true,Bool.and_eq_true] at h
  exact h.2.1
section
variable {AA:World→Value→List Nd→(Nat→Prop)→Prop}
theorem lawBuilt (S:ArenaBig AA) (M:ArenaMap AA) (k:Nat) (t:Tr) (A:Option Addr) (n c:Nat) (l:List Nat) (w:World) (h:Tr.Ins w k t) (hb:IsBytes w A n l) :
    Calls Tryz.prog 3 #[.agg t.cs.toArray,.slice A n c] w fun e w'=>e=.returned (.bool true)∧Below w.heap.size w w':=by
  have HIs:=Lib.hid h
  have HI:=Lib.hid h.1
  have HBy:=Lib.hid hb
  have HLn:=Lib.hid hb.1
  have hn63:=hb.2.1
  have hA:At (w.alloc (Obj.cells t.cs.toArray 27)) w.heap.size 27 t.cs.toArray:=At.new _ _ _
  have hB:Below w.heap.size w (w.alloc (Obj.cells t.cs.toArray 27)):=(Below.refl _ _).alloc (Nat.le_refl _) _
  clear h hb
  by_cases hc:nodesS k 60 t≤2000
  · have HC:Hid (decide (nodesS k 60 t≤2000)=true):=Lib.hid (decide_eq_true hc)
    have HSl:=Lib.hid (few_slim k 60 t HI.out (by omega) hc)
    clear hc
    by_cases hl:6<n
    · have hl1:(6:Int)<(n:Int):=by omega
      have hl2:decide (6<n)=true:=decide_eq_true hl
      have hl3:decide ((6:Int)<(n:Int))=true:=decide_eq_true hl1
      go_enter Tryz.func3,Tryz.ntmps3
      go_wp2_with fail
      refine (lawAwake13 _).mono ?_
      rintro e w1 ⟨rfl,hb⟩
      have hA:=hA.step hb rfl
      have hB:=below_step hB hb rfl rfl rfl rfl
      clear hb
      go_wp2_with (first
        | ((with_reducible show wpList _ _ _ (⟨_,.load 27 _,_,_,_,_⟩::_) _ _);refine wpList_load_row_want (by rfl) 27 _ rfl w.heap.size rfl 27 t.cs.toArray (0,0) _ hA Tryz.underlying27 rfl (by kernel_rfl) ?_)
        | fail)
      refine (lawFew k 60 t _ (by omega) (by omega) (HI.out.next hB)).mono ?_
      rintro e w2 ⟨rfl,hb⟩
      have hA:=hA.step hb rfl
      have hB:=below_step hB hb rfl rfl rfl rfl
      clear hb
      rw[HC.out]
      go_wp2_with fail
      refine (lawAwake13 _).mono ?_
      rintro e w8 ⟨rfl,hb⟩
      have hA:=hA.step hb rfl
      have hB:=below_step hB hb rfl rfl rfl rfl
      clear hb
      have HB:=Lib.hid hB
      clear hA hB
      go_wp2_with fail
      go_ret
      exact ⟨rfl,HB.out⟩
    · have hl1:¬(6:Int)<(n:Int):=by omega
      have hl2:decide (6<n)=false:=decide_eq_false hl
      have hl3:decide ((6:Int)<(n:Int))=false:=decide_eq_false hl1
      cases hfo:isFormed k t
      · have HFo:=Lib.hid hfo
        clear hfo
        go_enter Tryz.func3,Tryz.ntmps3
        go_wp2_with fail
        refine (lawAwake13 _).mono ?_
        rintro e w1 ⟨rfl,hb⟩
        have hA:=hA.step hb rfl
        have hB:=below_step hB hb rfl rfl rfl rfl
        clear hb
        go_wp2_with (first
          | ((with_reducible show wpList _ _ _ (⟨_,.load 27 _,_,_,_,_⟩::_) _ _);refine wpList_load_row_want (by rfl) 27 _ rfl w.heap.size rfl 27 t.cs.toArray (0,0) _ hA Tryz.underlying27 rfl (by kernel_rfl) ?_)
          | fail)
        refine (lawFew k 60 t _ (by omega) (by omega) (HI.out.next hB)).mono ?_
        rintro e w2 ⟨rfl,hb⟩
        have hA:=hA.step hb rfl
        have hB:=below_step hB hb rfl rfl rfl rfl
        clear hb
        rw[HC.out]
        go_wp2_with (first
          | ((with_reducible show wpList _ _ _ (⟨_,.load 27 _,_,_,_,_⟩::_) _ _);refine wpList_load_row_want (by rfl) 27 _ rfl w.heap.size rfl 27 t.cs.toArray (0,0) _ hA Tryz.underlying27 rfl (by kernel_rfl) ?_)
          | fail)
        refine (refFormed k t _ (HI.out.next hB)).mono ?_
        rintro e w3 ⟨rfl,hb⟩
        have hA:=hA.step hb rfl
        have hB:=below_step hB hb rfl rfl rfl rfl
        clear hb
        rw[HFo.out]
        go_wp2_with fail
        refine (lawAwake13 _).mono ?_
        rintro e w8 ⟨rfl,hb⟩
        have hA:=hA.step hb rfl
        have hB:=below_step hB hb rfl rfl rfl rfl
        clear hb
        have HB:=Lib.hid hB
        clear hA hB
        go_wp2_with fail
        go_ret
        exact ⟨rfl,HB.out⟩
      · have HFo:=Lib.hid hfo
        clear hfo
        by_cases hz:150<sizeS k t
        · obtain ⟨z,hzz⟩:∃z,sizeS k t=z:=⟨_,rfl⟩
          have HZz:=Lib.hid hzz
          rw[hzz] at hz
          have hz1:decide (150<z)=true:=decide_eq_true hz
          clear hzz
          go_enter Tryz.func3,Tryz.ntmps3
          go_wp2_with fail
          refine (lawAwake13 _).mono ?_
          rintro e w1 ⟨rfl,hb⟩
          have hA:=hA.step hb rfl
          have hB:=below_step hB hb rfl rfl rfl rfl
          clear hb
          go_wp2_with (first
            | ((with_reducible show wpList _ _ _ (⟨_,.load 27 _,_,_,_,_⟩::_) _ _);refine wpList_load_row_want (by rfl) 27 _ rfl w.heap.size rfl 27 t.cs.toArray (0,0) _ hA Tryz.underlying27 rfl (by kernel_rfl) ?_)
            | fail)
          refine (lawFew k 60 t _ (by omega) (by omega) (HI.out.next hB)).mono ?_
          rintro e w2 ⟨rfl,hb⟩
          have hA:=hA.step hb rfl
          have hB:=below_step hB hb rfl rfl rfl rfl
          clear hb
          rw[HC.out]
          go_wp2_with (first
            | ((with_reducible show wpList _ _ _ (⟨_,.load 27 _,_,_,_,_⟩::_) _ _);refine wpList_load_row_want (by rfl) 27 _ rfl w.heap.size rfl 27 t.cs.toArray (0,0) _ hA Tryz.underlying27 rfl (by kernel_rfl) ?_)
            | fail)
          refine (refFormed k t _ (HI.out.next hB)).mono ?_
          rintro e w3 ⟨rfl,hb⟩
          have hA:=hA.step hb rfl
          have hB:=below_step hB hb rfl rfl rfl rfl
          clear hb
          rw[HFo.out]
          go_wp2_with (first
            | ((with_reducible show wpList _ _ _ (⟨_,.load 27 _,_,_,_,_⟩::_) _ _);refine wpList_load_row_want (by rfl) 27 _ rfl w.heap.size rfl 27 t.cs.toArray (0,0) _ hA Tryz.underlying27 rfl (by kernel_rfl) ?_)
            | fail)
          refine (refSize k t _ (HI.out.next hB)).mono ?_
          rintro e w3 ⟨rfl,hb⟩
          have hA:=hA.step hb rfl
          have hB:=below_step hB hb rfl rfl rfl rfl
          clear hb
          rw[HZz.out]
          go_wp2_with fail
          refine (lawAwake13 _).mono ?_
          rintro e w8 ⟨rfl,hb⟩
          have hA:=hA.step hb rfl
          have hB:=below_step hB hb rfl rfl rfl rfl
          clear hb
          have HB:=Lib.hid hB
          clear hA hB
          go_wp2_with fail
          go_ret
          exact ⟨rfl,HB.out⟩
        · obtain ⟨z,hzz⟩:∃z,sizeS k t=z:=⟨_,rfl⟩
          have HZz:=Lib.hid hzz
          have HZ150:=Lib.hid (show sizeS k t≤150 by omega)
          rw[hzz] at hz
          have hz1:decide (150<z)=false:=decide_eq_false hz
          clear hzz
          go_enter Tryz.func3,Tryz.ntmps3
          go_wp2_with fail
          refine (lawAwake13 _).mono ?_
          rintro e w1 ⟨rfl,hb⟩
          have hA:=hA.step hb rfl
          have hB:=below_step hB hb rfl rfl rfl rfl
          clear hb
          go_wp2_with (first
            | ((with_reducible show wpList _ _ _ (⟨_,.load 27 _,_,_,_,_⟩::_) _ _);refine wpList_load_row_want (by rfl) 27 _ rfl w.heap.size rfl 27 t.cs.toArray (0,0) _ hA Tryz.underlying27 rfl (by kernel_rfl) ?_)
            | fail)
          refine (lawFew k 60 t _ (by omega) (by omega) (HI.out.next hB)).mono ?_
          rintro e w2 ⟨rfl,hb⟩
          have hA:=hA.step hb rfl
          have hB:=below_step hB hb rfl rfl rfl rfl
          clear hb
          rw[HC.out]
          go_wp2_with (first
            | ((with_reducible show wpList _ _ _ (⟨_,.load 27 _,_,_,_,_⟩::_) _ _);refine wpList_load_row_want (by rfl) 27 _ rfl w.heap.size rfl 27 t.cs.toArray (0,0) _ hA Tryz.underlying27 rfl (by kernel_rfl) ?_)
            | fail)
          refine (refFormed k t _ (HI.out.next hB)).mono ?_
          rintro e w3 ⟨rfl,hb⟩
          have hA:=hA.step hb rfl
          have hB:=below_step hB hb rfl rfl rfl rfl
          clear hb
          rw[HFo.out]
          go_wp2_with (first
            | ((with_reducible show wpList _ _ _ (⟨_,.load 27 _,_,_,_,_⟩::_) _ _);refine wpList_load_row_want (by rfl) 27 _ rfl w.heap.size rfl 27 t.cs.toArray (0,0) _ hA Tryz.underlying27 rfl (by kernel_rfl) ?_)
            | fail)
          refine (refSize k t _ (HI.out.next hB)).mono ?_
          rintro e w3 ⟨rfl,hb⟩
          have hA:=hA.step hb rfl
          have hB:=below_step hB hb rfl rfl rfl rfl
          clear hb
          rw[HZz.out]
          have HW4:Hid (w3.heap.size=w3.heap.size):=Lib.hid rfl
          obtain ⟨w4,hw4⟩:∃w4,w4=w3.alloc (.cells t.cs.toArray 27):=⟨_,rfl⟩
          have hb4:Below w3.heap.size w3 w4:=by rw[hw4];exact (Below.refl _ _).alloc (Nat.le_refl _) _
          have hA1:At w4 w3.heap.size 27 t.cs.toArray:=by rw[hw4];exact At.new _ _ _
          have hB4:=hB.trans (hb4.mono hB.size)
          have HM:=Lib.hid (tMake k (.slice (some ⟨w3.heap.size,0,none⟩) 1 1) [t] w4 (pats_one hA1 (HI.out.next hB4)) (fun t' ht'=>by rw[List.mem_singleton.1 ht'];exact HIs.out.next hB4) (by simp))
          have HWq:=Lib.hid hw4
          have HAq:=Lib.hid (At.below hA hb4 hA.lt)
          have HBq:=Lib.hid hB4
          clear hb4 hA1 hB4 hw4
          go_wp2_with (first
            | (with_reducible show wpList _ _ _ (⟨some 39,.buildSlice 25 _ _,_,_,_,_⟩::_) _ _
               refine wpList_slice_tr rfl _ t rfl rfl ?_
               rw[←HWq.out])
            | ((with_reducible show wpList _ _ _ (⟨_,.load 27 _,_,_,_,_⟩::_) _ _);refine wpList_load_row_want (by rfl) 27 _ rfl w.heap.size rfl 27 t.cs.toArray (0,0) _ hA Tryz.underlying27 rfl (by kernel_rfl) ?_)
            | fail)
          refine HM.out.mono ?_
          rintro e w5 ⟨v,L,er,rfl,hb,hlk,hc⟩
          clear hA hB
          have hA:=At.below HAq.out hb HAq.out.lt
          have hB:=HBq.out.trans (hb.mono HBq.out.size)
          obtain ⟨A1,c1,rfl,_,_⟩:=id hlk.1
          rcases hc with ⟨_,_,t',ht',hf'⟩ | ⟨_,⟨rfl,rfl,hmany⟩ | ⟨rfl,hfew,hrel⟩⟩
          · rw[List.mem_singleton.1 ht',HFo.out] at hf'
            cases hf'
          · have HB:=Lib.hid hB
            clear hb hlk hmany hA hB
            go_wp2_with fail
            go_ret
            exact ⟨rfl,HB.out.alloc HB.out.size _⟩
          · have hall:refAll [t]=refL 40 [] t:=rfl
            obtain ⟨hi40,hl40,hf40,hs40⟩:=formed_in HIs.out HFo.out
            have HRel:=Lib.hid hrel
            have HUq:Hid (Uniq (refAll [t])):=Lib.hid (uniq_all (fun t' ht'=>by rw[List.mem_singleton.1 ht'];exact hl40))
            have HHas:Hid (HasL (refAll [t]) 40 t):=Lib.hid (by rw[hall];exact has_refL 40 [] t (Nat.le_refl _) hl40 (fun q h=>absurd h List.not_mem_nil))
            have HFm:Hid (∀q∈L,formedS 40 q=true):=Lib.hid (rel_formed hrel (by rw[hall];exact form_refL 40 [] t (Nat.le_refl _) hl40 hs40 (fun q h=>absurd h List.not_mem_nil)))
            have HL4:Hid (L.length≤4):=Lib.hid (by have:=hrel.length;omega)
            have HFew:=Lib.hid hfew
            clear hi40 hl40 hf40 hs40 hall hfew hrel
            obtain ⟨w6,hw6⟩:∃w6,w6=w5.alloc (.cells #[.slice A1 L.length c1] 34):=⟨_,rfl⟩
            have hb6:Below w5.heap.size w5 w6:=by rw[hw6];exact (Below.refl _ _).alloc (Nat.le_refl _) _
            have hP:At w6 w5.heap.size 34 #[.slice A1 L.length c1]:=by rw[hw6];exact At.new _ _ _
            have HLk6:=Lib.hid (hlk.next hb6)
            have hA:=At.below hA hb6 hA.lt
            have hB:=hB.trans (hb6.mono hB.size)
            have HW6:=Lib.hid hw6
            obtain ⟨gq,hgq⟩:∃gq,gq=w5.heap.size:=⟨_,rfl⟩
            have HGq:=Lib.hid hgq
            rw[←hgq] at hP
            clear hb hlk hb6 hw6 hgq
            go_wp2_with fail
            try rw[←HGq.out]
            try rw[←HW6.out]
            refine (S.new _).mono ?_
            rintro e w7 ⟨a,F,rfl,hA7,hF7,hb7⟩
            have HF7:Hid (∀b,F b→w6.heap.size≤b):=Lib.hid hF7
            have HPl:=Lib.hid hP.lt
            have HAl:=Lib.hid hA.lt
            have hA:=hA.step hb7 rfl
            have hP:=hP.step hb7 rfl
            have hB:=below_step hB hb7 rfl rfl rfl rfl
            have HB67:=Lib.hid hb7
            have HPB:=Lib.hid (planBuild M k t _ L (refAll [t]) hA7 (HIs.out.next hB) HSl.out HFo.out HZ150.out (HLk6.out.next hb7) HRel.out HUq.out HFew.out HHas.out)
            clear hb7 hA7 hF7
            go_wp2_with (first
              | (with_reducible show wpList _ _ _ (⟨some 49,.load 34 _,_,_,_,_⟩::_) _ _
                 refine wpList_load_row_want (by rfl) 34 _ rfl gq rfl 34 #[.slice A1 L.length c1] (0,0) _ hP Tryz.underlying34 rfl (by kernel_rfl) ?_)
              | ((with_reducible show wpList _ _ _ (⟨_,.load 27 _,_,_,_,_⟩::_) _ _);refine wpList_load_row_want (by rfl) 27 _ rfl w.heap.size rfl 27 t.cs.toArray (0,0) _ hA Tryz.underlying27 rfl (by kernel_rfl) ?_)
              | fail)
            refine HPB.out.mono ?_
            rintro e w8 ⟨id8,ns,F5,rfl,hA8,hF8,ho8,hin8,hsp8⟩
            have hb68:Below w6.heap.size w6 w8:=HB67.out.trans (ho8.below HF7.out HB67.out.size)
            have hA:At w8 w.heap.size 27 t.cs.toArray:=(ho8.block _ hA.lt (fun q=>by have:=HF7.out _ q;have:=HAl.out;omega)).trans hA
            have hP:At w8 gq 34 #[.slice A1 L.length c1]:=(ho8.block _ hP.lt (fun q=>by have:=HF7.out _ q;have:=HPl.out;omega)).trans hP
            have hB:=hB.trans (ho8.below (fun b q=>by have:=HF7.out b q;have:=HAl.out;omega) hB.size)
            have HA8:=Lib.hid hA8
            have HSp8:=Lib.hid hsp8
            have HLk8:=Lib.hid (HLk6.out.next hb68)
            obtain ⟨i,rfl⟩:∃i:Nat,id8=(i:Int):=⟨id8.toNat,by unfold isIn at hin8;omega⟩
            have HIn:Hid (i<ns.length):=Lib.hid (by unfold isIn at hin8;omega)
            have HOk:Hid (∀j,j<ns.length→NdOk (ndAt ns j) j):=Lib.hid (fun j hj=>(S.fine HA8.out).ok j hj)
            clear ho8 hA8 hF8 hin8 hsp8 HPB hb68
            have hi0:(0:Int)≤(i:Int):=by omega
            have hi00:¬(i:Int)<0:=by omega
            have HLenA:=Lib.hid (S.len HA8.out)
            have HAt:=Lib.hid hA
            have HPt:=Lib.hid hP
            have HBt8:=Lib.hid hB
            clear hA hP hB
            go_wp2_with fail
            refine HLenA.out.mono ?_
            rintro e w9 ⟨rfl,q9,rfl⟩
            have hA:=HAt.out.drewN q9
            have hP:=HPt.out.drewN q9
            have hB:=below_drewN' HBt8.out q9
            have HA9:Hid (AA (w8.drewN q9) a ns F5):=Lib.hid (S.keep HA8.out (fun _ _=>rfl))
            have hi1:¬(ns.length:Int)≤(i:Int):=by have:=HIn.out;omega
            have hi2:decide ((ns.length:Int)≤(i:Int))=false:=decide_eq_false hi1
            have hi3:¬ns.length≤i:=by have:=HIn.out;omega
            have HEq:Hid (∀bits,BitsD L l bits→∀x y,x<n+1→y<n+1→nodeT l bits ns i x y=spansS l k t x y):=Lib.hid (fun bits hd x y hx hy=>by
              have e:=HLn.out
              exact HSp8.out l bits (fun b hb=>by obtain ⟨j,hj,rfl⟩:=List.getElem_of_mem hb;exact HBy.out.2.2.1 j hj) (by omega) hd x y (by omega) (by omega))
            have HSp0:Hid (∀w',Tr.In w' k t→IsBytes w' A n l→Calls Tryz.prog 15 #[.agg t.cs.toArray,.slice A n c] w' (Tabled w' (n+1) (spansS l k t))):=Lib.hid (fun w' hi hby=>by
              obtain rfl:=HLn.out
              exact refSpans l k t A c w' hi HSl.out (formed_ofK HFo.out) hby (by omega))
            have HLks:Hid (LksAt (w8.drewN q9) (.slice A1 L.length c1) L):=Lib.hid (HLk8.out.next (below_drewN' (Below.refl _ _) q9))
            have HAh:=Lib.hid hA
            have HPh:=Lib.hid hP
            have HBh:=Lib.hid hB
            clear hA hP hB HAt HPt HBt8 HLenA HLk8 HLk6 HB67 HPl HAl HF7 HRel HUq HHas HFew HW6 HGq HM HWq HAq HBq
            go_wp2_with fail
            obtain ⟨wo,hwo⟩:∃wo,wo=w8.drewN q9:=⟨_,rfl⟩
            rw[←hwo] at HAh HPh HBh HA9 HLks ⊢
            have hA:=HAh.out
            have HBw:=HBh
            have HA8:=HA9
            have hP0:wo.cell? ⟨gq,0,none⟩=some (.slice A1 L.length c1):=HPh.out.cell 0
            have hg0:gq<wo.heap.size:=HPh.out.lt
            clear hwo HAh HPh HBh
            have hBo:Below wo.heap.size wo wo:=Below.refl _ _
            refine wp_region_noPanic ?_
            refine wp_region_held_drew (S:=(fun w'=>w'.cell? ⟨gq,0,none⟩=some (.slice A1 L.length c1))) (by kernel_rfl) (by first | exact ((bcell hBo).1 gq _ hg0).trans hP0 | exact ((bcell hBo.drew).1 gq _ hg0).trans hP0 | exact hP0) (fun hHeld=>?_)
            have hBo:=hBo.drew
            refine wpAnyH_take (i:=0) (oi:=⟨some 67,_,_,_,_,_⟩) (v:=?_) rfl (by kernel_rfl) (by kernel_rfl) (by kernel_rfl) (fun _ _ _ h=>h) (Or.inl ⟨by rfl,?_⟩) (by exact hHeld) ?_
            rotate_left
            · (intro w hSw;(try dsimp only at hSw);go_simp;try (with_reducible rfl))
            simp only[Act.put,List.setIfInBounds_toArray,List.set_cons_zero,List.set_cons_succ]
            refine wpAnyH_take (i:=2) (oi:=⟨some 69,_,_,_,_,_⟩) (v:=?_) rfl (by kernel_rfl) (by kernel_rfl) (by kernel_rfl) (fun _ _ _ h=>h) (Or.inl ⟨by rfl,?_⟩) (by exact hHeld) ?_
            rotate_left
            · (intro w hSw;(try dsimp only at hSw);go_simp;try (with_reducible rfl))
            simp only[Act.put,List.setIfInBounds_toArray,List.set_cons_zero,List.set_cons_succ]
            refine wpAnyH_take (i:=3) (oi:=⟨some 70,_,_,_,_,_⟩) (v:=?_) rfl (by kernel_rfl) (by kernel_rfl) (by kernel_rfl) (fun _ _ _ h=>h) (Or.inl ⟨by rfl,?_⟩) (by exact hHeld) ?_
            rotate_left
            · (intro w hSw;(try dsimp only at hSw);go_simp;try (with_reducible rfl))
            simp only[Act.put,List.setIfInBounds_toArray,List.set_cons_zero,List.set_cons_succ]
            refine wpAnyH_take (i:=4) (oi:=⟨some 71,_,_,_,_,_⟩) (v:=?_) rfl (by kernel_rfl) (by kernel_rfl) (by kernel_rfl) (fun _ _ _ h=>h) (Or.inl ⟨by rfl,?_⟩) (by exact hHeld) ?_
            rotate_left
            · (intro w hSw;(try dsimp only at hSw);go_simp;try (with_reducible rfl))
            simp only[Act.put,List.setIfInBounds_toArray,List.set_cons_zero,List.set_cons_succ]
            refine wpAnyH_take (i:=5) (oi:=⟨some 72,_,_,_,_,_⟩) (v:=?_) rfl (by kernel_rfl) (by kernel_rfl) (by kernel_rfl) (fun _ _ _ h=>h) (Or.inl ⟨by rfl,?_⟩) (by exact hHeld) ?_
            rotate_left
            · (intro w hSw;(try dsimp only at hSw);go_simp;try (with_reducible rfl))
            simp only[Act.put,List.setIfInBounds_toArray,List.set_cons_zero,List.set_cons_succ]
            refine wpAnyH_take (i:=8) (oi:=⟨some 75,_,_,_,_,_⟩) (v:=?_) rfl (by kernel_rfl) (by kernel_rfl) (by kernel_rfl) (fun _ _ _ h=>h) (Or.inl ⟨by rfl,?_⟩) (by exact hHeld) ?_
            rotate_left
            · (intro w hSw;(try dsimp only at hSw);go_simp;try (with_reducible rfl))
            simp only[Act.put,List.setIfInBounds_toArray,List.set_cons_zero,List.set_cons_succ]
            refine wpAnyH_ready (rs:=[1]) (by kernel_rfl) (by simp) ?_
            refine AllReadyH.cons (o:=⟨some 68,_,_,_,_,_⟩) rfl (fun K hK=>?_) AllReadyH.nil
            go_simp
            ((with_reducible refine (refNodesB S ns _ F5 (S.max HA8.out) _ (S.next HA8.out hBo)).mono ?_))
            rintro e wa ⟨v7,rfl,hn7,hba⟩
            obtain ⟨A7,c7,hv7,h7a,h7b⟩:=hn7.nds (by have:=S.max HA8.out;omega)
            subst hv7
            have hn7:NdsAt wa (.slice A7 ns.length c7) ns:=⟨A7,c7,rfl,h7a,h7b⟩
            have hBo:=below_step hBo hba rfl rfl rfl rfl
            clear hba h7a h7b
            dsimp only
            refine hK.out _ _ ?_ (fun hHeld=>?_)
            · first | exact ((bcell hBo).1 gq _ hg0).trans hP0 | exact ((bcell hBo.drew).1 gq _ hg0).trans hP0 | exact hP0
            clear hK K
            try simp only[Act.put,List.setIfInBounds_toArray,List.set_cons_zero,List.set_cons_succ]
            refine wpAnyH_ready (rs:=[6]) (by kernel_rfl) (by simp) ?_
            refine AllReadyH.cons (o:=⟨some 73,_,_,_,_,_⟩) rfl (fun K hK=>?_) AllReadyH.nil
            go_simp
            ((with_reducible refine (refBits _ L A c n l _ (HLks.out.next hBo) HL4.out HFm.out (HBy.out.below (HBw.out.trans (hBo.mono HBw.out.size))) (by omega)).mono ?_))
            rintro e wb ⟨gz,bits,rfl,hbi,hbd,hbb⟩
            have hn7:NdsAt wb (.slice A7 ns.length c7) ns:=NdsAt.next hn7 hbb
            have hBo:=below_step hBo hbb rfl rfl rfl rfl
            clear hbb
            dsimp only
            refine hK.out _ _ ?_ (fun hHeld=>?_)
            · first | exact ((bcell hBo).1 gq _ hg0).trans hP0 | exact ((bcell hBo.drew).1 gq _ hg0).trans hP0 | exact hP0
            clear hK K
            try simp only[Act.put,List.setIfInBounds_toArray,List.set_cons_zero,List.set_cons_succ]
            refine wpAnyH_ready (rs:=[7]) (by kernel_rfl) (by simp) ?_
            refine AllReadyH.cons (o:=⟨some 74,_,_,_,_,_⟩) rfl (fun K hK=>?_) AllReadyH.nil
            go_simp
            ((with_reducible refine (spansB ns l bits A7 A (some ⟨gz,0,none⟩) c7 c (n+1) n (n+1) i HLn.out rfl (by omega) (by have:=S.max HA8.out;omega) HOk.out HIn.out _ hn7 (HBy.out.below (HBw.out.trans (hBo.mono HBw.out.size))) hbi).mono ?_))
            rintro e wc ⟨g,m,cap,ga,ra,rfl,him,hc,ht,hg,hbc⟩
            have him1:(i:Int)<(m:Int):=by omega
            have hBo:=below_step hBo hbc rfl rfl rfl rfl
            have HBt:=Lib.hid hbd
            clear hbc hn7 hbi hbd
            dsimp only
            refine hK.out _ _ ?_ (fun hHeld=>?_)
            · first | exact ((bcell hBo).1 gq _ hg0).trans hP0 | exact ((bcell hBo.drew).1 gq _ hg0).trans hP0 | exact hP0
            clear hK K
            try simp only[Act.put,List.setIfInBounds_toArray,List.set_cons_zero,List.set_cons_succ]
            refine wpAnyH_take (i:=9) (oi:=⟨some 76,_,_,_,_,_⟩) (v:=?_) rfl (by kernel_rfl) (by kernel_rfl) (by kernel_rfl) (fun _ _ _ h=>h) (Or.inl ⟨by rfl,?_⟩) (by exact hHeld) ?_
            rotate_left
            · (intro w hSw;(try dsimp only at hSw);go_simp;try (with_reducible rfl))
            simp only[Act.put,List.setIfInBounds_toArray,List.set_cons_zero,List.set_cons_succ]
            refine wpAnyH_ready (rs:=[10]) (by kernel_rfl) (by simp) ?_
            refine AllReadyH.cons (o:=⟨some 77,_,_,_,_,_⟩) rfl (fun K hK=>?_) AllReadyH.nil
            go_simp
            refine hK.out _ _ ?_ (fun hHeld=>?_)
            · first | exact ((bcell hBo).1 gq _ hg0).trans hP0 | exact ((bcell hBo.drew).1 gq _ hg0).trans hP0 | exact hP0
            clear hK K
            try simp only[Act.put,List.setIfInBounds_toArray,List.set_cons_zero,List.set_cons_succ]
            refine wpAnyH_take (i:=11) (oi:=⟨some 10,_,_,_,_,_⟩) (v:=?_) rfl (by kernel_rfl) (by kernel_rfl) (by kernel_rfl) (fun _ _ _ h=>h) (Or.inl ⟨by rfl,?_⟩) (by exact hHeld) ?_
            rotate_left
            · (intro w hSw;(try dsimp only at hSw);go_simp;try (with_reducible rfl))
            simp only[Act.put,List.setIfInBounds_toArray,List.set_cons_zero,List.set_cons_succ]
            refine wpAnyH_done (by kernel_rfl) ?_ _
            refine NoPanic.normal ?_
            have HT:=Lib.hid ht
            have HBo:=Lib.hid hBo
            have hA:=hA.below hBo hA.lt
            have HBx:=Lib.hid (HBw.out.trans (hBo.mono HBw.out.size))
            clear ht hBo hc him him1 hg hg0 hP0
            have HSp:=Lib.hid (HSp0.out _ (HI.out.next HBx.out) (HBy.out.below HBx.out))
            clear HSp0
            go_wp2_with (first
              | ((with_reducible show wpList _ _ _ (⟨_,.load 27 _,_,_,_,_⟩::_) _ _);refine wpList_load_row_want (by rfl) 27 _ rfl w.heap.size rfl 27 t.cs.toArray (0,0) _ hA Tryz.underlying27 rfl (by kernel_rfl) ?_)
              | fail)
            refine HSp.out.mono ?_
            rintro e wd ⟨gs,rs,rfl,hts,hbd⟩
            have HTa:=Lib.hid (HT.out.step hbd rfl)
            have HTb:=Lib.hid hts
            have HBy2:=Lib.hid (HBx.out.trans (hbd.mono HBx.out.size))
            have HEq2:=Lib.hid (HEq.out _ HBt.out)
            clear hts hbd hA HT HBx HSp HBo HBt HEq
            go_wp2_with fail
            go_loopw [83] (fun x wr=>∃i1:Nat,i1≤n+1∧x=.int .i64 i1∧Hid (wr.heap=wd.heap)∧Hid (Below w.heap.size w wr)) (fun x _=>n+1-(intOf x).toNat)
            case atStart=>exact ⟨0,Nat.zero_le _,rfl,Lib.hid rfl,HBy2⟩
            case round =>
              obtain ⟨i1,hi1,rfl,HW,HBl⟩:=hrel
              by_cases hin:i1<n+1
              · have hq0:(0:Int)≤(i1:Int):=by omega
                have hq1:(i1:Int)<(n:Int)+1:=by omega
                obtain ⟨wo2,hwo2⟩:∃wo2,wo2=wr:=⟨_,rfl⟩
                rw[←hwo2] at HW HBl ⊢
                clear hwo2
                go_wp2_with fail
                go_loopw [88] (fun x wr=>∃j1:Nat,j1≤n+1∧x=.int .i64 j1∧Hid (wr.heap=wd.heap)∧Hid (Below w.heap.size w wr)) (fun x _=>n+1-(intOf x).toNat)
                case atStart=>exact ⟨0,Nat.zero_le _,rfl,HW,HBl⟩
                case round =>
                  clear HW HBl
                  obtain ⟨j1,hj1,rfl,HW,HBl⟩:=hrel
                  by_cases hjn:j1<n+1
                  · have hj0:(0:Int)≤(j1:Int):=by omega
                    have hjq:(j1:Int)<(n:Int)+1:=by omega
                    have hTa:=HTa.out.same HW.out
                    have hTb:=HTb.out.same HW.out
                    have t0:=hTa.cellTop hin
                    have t1:=hTa.cellRow hin hjn
                    have t2:=hTb.cellTop hin
                    have t3:=hTb.cellRow hin hjn
                    rw[HEq2.out i1 j1 hin hjn] at t1
                    obtain ⟨x,hx⟩:∃x,spansS l k t i1 j1=x:=⟨_,rfl⟩
                    rw[hx] at t1 t3
                    clear hTa hTb hx
                    go_wp2_with fail
                    go_quiet (fail)
                    cases x <;>
                    · go_wp2_with fail
                      exact ⟨⟨j1+1,by omega,by go_num,Lib.hid HW.out,Lib.hid (below_drewN' HBl.out _)⟩,by simp[intOf]<;>omega⟩
                  · obtain rfl:j1=n+1:=by omega
                    go_wp2_with fail
                    exact ⟨⟨i1+1,by omega,by go_num,HW,HBl⟩,by simp[intOf]<;>omega⟩
              · obtain rfl:i1=n+1:=by omega
                go_wp2_with fail
                go_ret
                exact ⟨rfl,HBl.out⟩
  · have HC:Hid (decide (nodesS k 60 t≤2000)=false):=Lib.hid (decide_eq_false hc)
    clear hc
    go_enter Tryz.func3,Tryz.ntmps3
    go_wp2_with fail
    refine (lawAwake13 _).mono ?_
    rintro e w1 ⟨rfl,hb⟩
    have hA:=hA.step hb rfl
    have hB:=below_step hB hb rfl rfl rfl rfl
    clear hb
    go_wp2_with (first
      | ((with_reducible show wpList _ _ _ (⟨_,.load 27 _,_,_,_,_⟩::_) _ _);refine wpList_load_row_want (by rfl) 27 _ rfl w.heap.size rfl 27 t.cs.toArray (0,0) _ hA Tryz.underlying27 rfl (by kernel_rfl) ?_)
      | fail)
    refine (lawFew k 60 t _ (by omega) (by omega) (HI.out.next hB)).mono ?_
    rintro e w2 ⟨rfl,hb⟩
    have hA:=hA.step hb rfl
    have hB:=below_step hB hb rfl rfl rfl rfl
    clear hb
    rw[HC.out]
    go_wp2_with fail
    refine (lawAwake13 _).mono ?_
    rintro e w8 ⟨rfl,hb⟩
    have hA:=hA.step hb rfl
    have hB:=below_step hB hb rfl rfl rfl rfl
    clear hb
    have HB:=Lib.hid hB
    clear hA hB
    go_wp2_with fail
    go_ret
    exact ⟨rfl,HB.out⟩
end
end Go.Proofs.YtgmpfnfomgadeaaGreat
