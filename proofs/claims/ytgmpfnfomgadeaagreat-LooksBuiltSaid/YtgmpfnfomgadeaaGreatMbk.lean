/- Joined: BlIs, LawFound. -/
import Derived.Test.YtgmpfnfomgadeaaGreatMbd
import Derived.Test.YtgmpfnfomgadeaaGreatBlGood
import Derived.Test.YtgmpfnfomgadeaaGreatMbh
import Derived.Test.YtgmpfnfomgadeaaGreatMbi
import Derived.Test.YtgmpfnfomgadeaaGreatMao
import Derived.Test.YtgmpfnfomgadeaaGreatMan
import Derived.Test.YtgmpfnfomgadeaaGreatMbj
import Derived.Test.YtgmpfnfomgadeaaGreatMbc
/- norm.Build with the looks of a pattern's own plan; plan.Build. -/
set_option linter.unusedSimpArgs false
set_option linter.unusedVariables false
set_option maxHeartbeats 16000000
set_option maxRecDepth 100000
namespace Go.Proofs.YtgmpfnfomgadeaaGreat
open Go.RowKit Go.Shelf
theorem formed_40 {w:World} {k:Nat} {t:Tr} (h:Tr.Ins w k t) (hf:isFormed k t=true):Tr.Ins w 40 t∧slimS 40 t∧massS 40 t≤4000000∧formedS 40 t=true∧Tr.Lv 40 t∧isFormed 40 t=true:=by
  obtain ⟨h1,h2,h3,h4⟩:=formed_in h hf
  exact ⟨h1,slim_any t h2 h3 40,mass_any t h2 h3 40,h4,h2,h3⟩
def kOf (v:Value) (b:Nat):Nat:=(v.ownBlock).getD b
theorem krow_of {w w':World} {base:Nat} {v:Value} {ks:List Int} {X:Nat→Prop} {b0:Nat} (h:IdRow w base v ks) (hb:Below w.heap.size w w') (hb0:b0≤base) (hlt:b0<w.heap.size) (hx:∀c,base≤c→c<w.heap.size→¬X c):KRow w' X (kOf v b0) v ks:=by
  have h':=h.next hb
  rcases id h.2 with ⟨hn,h0⟩ | ⟨g,cap,cur,hv,hbg,rest⟩
  · have hk:ks=[]:=by
      cases ks with
      | nil=>rfl
      | cons x ks=>simp at h0
    subst hk
    rw[hn]
    exact KRow.nil X (Nat.lt_of_lt_of_le hlt hb.size)
  · subst hv
    have hl:=h.lt (c:=g) rfl
    have hl':=h'.lt (c:=g) rfl
    refine ⟨hl'.2,_,_,rfl,h.cap,fun h0=>⟨0,rfl,hx g hl.1 hl.2,fun j hj=>?_⟩⟩
    obtain ⟨g',cap',hv',hc⟩:=h'.form h0
    injection hv' with e1 e2 e3
    injection e1 with e1
    injection e1 with e1
    subst e1
    rw[Nat.zero_add]
    exact hc j hj
section
variable {AA:World→Value→List Nd→(Nat→Prop)→Prop}
theorem blBuild (S:ArenaMap AA) {w:World} {a:Value} {F:Nat→Prop} (k:Nat) (t:Tr) (v:Value) (L W:List Tr) (h:AA w a [] F) (ht:Tr.Ins w k t) (hs:slimS k t) (hf:isFormed k t=true) (hz:sizeS k t≤150) (hL:LksAt w v L) (hR:RelL L W) (hU:Uniq W) (h4:W.length≤4) (hh:HasL W 40 t):Calls Tryz.prog 22 #[a,.agg t.cs.toArray,idxF v] w fun e w'=>∃(id:Int) (ns:List Nd) (F':Nat→Prop),e=.returned (.tuple #[.int .i64 id,.int .i64 0])∧AA w' a ns F'∧(∀b,F' b→F b∨w.heap.size≤b)∧OffF F w w'∧isIn ns id∧∀l bits:List Nat,(∀b∈l,b<256)→l.length≤8→BitsD L l bits→∀i j,i≤l.length→j≤l.length→nodeT l bits ns id i j=spansS l k t i j:=by
  have hA:At (w.alloc (Obj.cells t.cs.toArray 27)) w.heap.size 27 t.cs.toArray:=At.new _ _ _
  have hB:Below w.heap.size w (w.alloc (Obj.cells t.cs.toArray 27)):=(Below.refl _ _).alloc (Nat.le_refl _) _
  have HI:=Lib.hid (ht.next hB)
  have HB:=Lib.hid hB
  have HF:=Lib.hid hf
  have HS:=Lib.hid hs
  have HZ:=Lib.hid hz
  have HLk:=Lib.hid hL
  have HPl:=Lib.hid (And.intro hR (And.intro hU (And.intro h4 hh)))
  have HLl:Hid (L.length≤1000000):=Lib.hid (by have:=hR.length;omega)
  obtain ⟨Q,hQ⟩:∃Q,Q=idxF v:=⟨_,rfl⟩
  have HQ:=Lib.hid hQ
  rw[←hQ]
  obtain ⟨gp,rfl⟩:=S.ptr h
  have HA:=Lib.hid h
  clear h ht hB hf hs hz hL hR hU h4 hh hQ
  go_enter Tryz.func22,Tryz.ntmps22
  go_wp2_with (first | (refine wpList_load_row_want (by rfl) 27 _ rfl w.heap.size rfl 27 t.cs.toArray (0,0) _ hA Tryz.underlying27 rfl (by kernel_rfl) ?_) | fail)
  refine (treeFormed k t _ HI.out.1).mono ?_
  rintro e w1 ⟨rfl,hb1⟩
  rw[HF.out]
  have HI1:=Lib.hid (HI.out.next hb1)
  have HB1:=Lib.hid (HB.out.trans (hb1.mono HB.out.size))
  have HA1:=Lib.hid (At.below hA hb1 (At.lt hA))
  have H40:=Lib.hid (formed_40 HI1.out HF.out)
  clear hb1 hA
  go_wp2_with (first | (refine wpList_load_row rfl 27 _ rfl w.heap.size rfl 27 t.cs.toArray (0,0) _ HA1.out Tryz.underlying27 rfl (by kernel_rfl) ?_) | fail)
  refine (tClone t w1 H40.out.1 H40.out.2.1 H40.out.2.2.1).mono ?_
  rintro e w2 ⟨t2,rfl,hin,hfr,hst,hb2⟩
  have HB2:=Lib.hid (HB1.out.trans (hb2.mono HB1.out.size))
  have HA2:=Lib.hid (At.below HA1.out hb2 (At.lt HA1.out))
  have hone2:=Tr.one t2
  have HR:Hid (Tr.Ins w2 40 t2∧Tr.From w1.heap.size 40 t2∧t2.strip 40=t.strip 40):=Lib.hid ⟨hin,hfr,hst⟩
  have HSz:Hid (w.heap.size<w1.heap.size):=Lib.hid (At.lt HA1.out)
  have HBs:Hid (w1.heap.size≤w2.heap.size):=Lib.hid hb2.size
  clear hin hfr hst hb2
  obtain ⟨w3,hw3⟩:∃w3,w3=w2.setRow w.heap.size t2.cs.toArray:=⟨_,rfl⟩
  have ho3:Only w.heap.size w2 w3:=by rw[hw3];exact Only.row _ _ _
  have HR3:=Lib.hid (HR.out.1.only HR.out.2.1 ho3 HSz.out)
  have HA3:Hid (At w3 w.heap.size 27 t2.cs.toArray):=Lib.hid (by rw[hw3];exact HA2.out.row _)
  have HB3:Hid (Below w.heap.size w w3):=Lib.hid (HB2.out.trans (ho3.below (Nat.le_refl _)))
  have HF2:Hid (formedS 40 t2=true):=Lib.hid (by rw[formedS_congr 40 t2 t HR.out.2.2];exact H40.out.2.2.2.1)
  have HGd:Hid (GoodK (BitsD L) 40 t2 (numsS L 40 t2)∧numOk L 40 t2):=Lib.hid (good_nums HPl.out.1 HPl.out.2.1 HPl.out.2.2.1 40 t2 (Nat.le_refl _) HR.out.1.1.lv (has_congr 40 t t2 (Nat.le_refl _) H40.out.2.2.2.2.1 HR.out.1.1.lv HR.out.2.2.symm HPl.out.2.2.2))
  have HLen:Hid ((numsS L 40 t2).length≤1000):=Lib.hid (by
    have h1:=nums_len L 40 t2
    have hsz2:sizeS 40 t2≤150:=by
      rw[sizeS_congr 40 t2 t HR.out.2.2,any_lv sizeS sizeS_lv H40.out.2.2.2.2.1 HI1.out.1.lv];exact HZ.out
    have h2:=mass_size 40 t2 HR.out.1.1.lv (by omega)
    omega)
  have HW3:=Lib.hid hw3
  clear ho3 hw3
  go_wp2_with (first
    | (with_reducible show wpList _ _ _ (⟨none,.store _ _ _,_,_,_,_⟩::_) _ _
       refine wpList_store_row rfl 27 _ _ rfl w.heap.size t2.cs.toArray rfl rfl 27 t.cs.toArray HA2.out (by kernel_rfl) rfl hone2 ?_
       rw[←HW3.out])
    | (refine wpList_load_row rfl 27 _ rfl w.heap.size rfl 27 t2.cs.toArray (0,0) _ HA3.out Tryz.underlying27 rfl (by kernel_rfl) ?_)
    | fail)
  rw[HQ.out]
  refine (nums v L HLl.out 40 (Nat.le_refl _) t2 w3 w3 _ [] HR3.out HF2.out HGd.out.2 (HLk.out.next HB3.out) (Below.refl _ _) (IdRow.nil _ _) (by have:=HLen.out;simp;omega)).mono ?_
  rintro e w4 ⟨vk,rfl,hrk,hb4⟩
  rw[List.nil_append] at hrk
  obtain ⟨Ak,ck,hvk⟩:=hrk.len
  have HRk:=Lib.hid hrk
  have HB4:=Lib.hid (HB3.out.trans (hb4.mono HB3.out.size))
  have HR4:=Lib.hid (HR3.out.next hb4)
  have HA4:=Lib.hid (At.below HA3.out hb4 (At.lt HA3.out))
  have HS4:Hid (w1.heap.size≤w4.heap.size):=Lib.hid (by
    have h1:=hb4.size
    rw[HW3.out,setRow_size] at h1
    have h2:w1.heap.size≤w2.heap.size:=HBs.out
    omega)
  have HS3:Hid (w.heap.size≤w3.heap.size):=Lib.hid HB3.out.size
  clear hb4 hrk
  obtain ⟨nk,hnk⟩:∃nk,(numsS L 40 t2).length=nk:=⟨_,rfl⟩
  rw[hnk] at hvk
  have HNk:=Lib.hid hnk
  subst hvk
  clear hnk
  go_wp2_with (first
    | (refine wpList_load_row rfl 27 _ rfl w.heap.size rfl 27 t2.cs.toArray (0,0) _ (by first | exact HA4.out | exact (HA4.out.alloc _)) Tryz.underlying27 rfl (by kernel_rfl) ?_)
    | fail)
  have HNd:Hid (Calls Tryz.prog 42 #[.pointer (some ⟨w4.heap.size,0,none⟩),.agg t2.cs.toArray] (w4.alloc (.cells #[.pointer (some ⟨gp,0,none⟩),.slice Ak nk ck] 77)) (GrowsB AA (w4.alloc (.cells #[.pointer (some ⟨gp,0,none⟩),.slice Ak nk ck] 77)) (.pointer (some ⟨gp,0,none⟩)) [] F w4.heap.size (kOf (.slice Ak nk ck) w.heap.size) [] (NodeR (BitsD L) [] 40 t2))):=Lib.hid (by
    have hal:Below w4.heap.size w4 (w4.alloc (.cells #[.pointer (some ⟨gp,0,none⟩),.slice Ak nk ck] 77)):=(Below.refl _ _).alloc (Nat.le_refl _) _
    have hFl:=S.low HA.out
    have hsz2:sizeS 40 t2≤150:=by
      rw[sizeS_congr 40 t2 t HR.out.2.2,any_lv sizeS sizeS_lv H40.out.2.2.2.2.1 HI1.out.1.lv];exact HZ.out
    have hw14:=HB4.out.size
    refine bNode S (bTimes S) 40 t2 w4.heap.size (kOf (.slice Ak nk ck) w.heap.size) (numsS L 40 t2) [] (S.next HA.out (HB4.out.trans (hal.mono hw14))) canon_nil ?_ (fun z=>by have:=hFl _ z;omega) (fun w' ho=>?_) HF2.out HGd.out.1 hsz2 ?_
    · rw[List.append_nil]
      refine ⟨.slice Ak nk ck,At.new _ _ _,krow_of HRk.out hal HS3.out (by have:=HB4.out.size;have:=HA4.out.lt;omega) (fun c hc1 hc2 z=>?_)⟩
      rcases z with z | z
      · have:=hFl c z;have:=HS3.out;omega
      · omega
    · refine Tr.In.kept (base:=w1.heap.size) (Nat.le_trans hal.size ho.size) (fun b hb hlt=>(ho.block b (Nat.lt_of_lt_of_le hlt hal.size) (fun z=>?_)).trans (hal.block b hlt)) 40 t2 HR.out.2.1 HR4.out.1
      have:=HSz.out
      rcases z with z | z
      · have:=hFl b z;omega
      · omega
    · have h1:=sz_int 40 t2
      have h2:=cst_mono (k:=40) (show sz 40 t2≤150 by omega)
      have h3:cst 150 40=13800:=rfl
      rw[List.length_nil]
      omega)
  refine HNd.out.mono ?_
  rintro e w6 ⟨r,more,F',rfl,g1,g2,g3,g4,g5,gk,g6⟩
  have hr0:¬r<0:=by unfold isIn at g5;omega
  have hr0d:=decide_eq_false hr0
  have HG:Hid (∃(id:Int) (ns:List Nd) (F':Nat→Prop),(Ending.returned (.tuple #[.int .i64 r,.int .i64 0]))=.returned (.tuple #[.int .i64 id,.int .i64 0])∧AA w6 (.pointer (some ⟨gp,0,none⟩)) ns F'∧(∀b,F' b→F b∨w.heap.size≤b)∧OffF F w w6∧isIn ns id∧∀l bits:List Nat,(∀b∈l,b<256)→l.length≤8→BitsD L l bits→∀i j,i≤l.length→j≤l.length→nodeT l bits ns id i j=spansS l k t i j):=Lib.hid (by
    have hal:Below w4.heap.size w4 (w4.alloc (.cells #[.pointer (some ⟨gp,0,none⟩),.slice Ak nk ck] 77)):=(Below.refl _ _).alloc (Nat.le_refl _) _
    have hB5:=HB4.out.trans (hal.mono HB4.out.size)
    refine ⟨r,[]++more,F',rfl,g1,fun b z=>?_,(OffF.of hB5).off g3 (fun b z=>z.elim Or.inl (fun z=>Or.inr (by have:=HB4.out.size;omega))),g5,fun l bits hb hl hd i j hi hj=>?_⟩
    · rcases g2 b z with z | z
      · exact Or.inl z
      · exact Or.inr (Nat.le_trans hB5.size z)
    · have h1:=g6.2.1 l bits hb hl hd i j (by omega) (by omega)
      have e:spansS l 40 t2=spansS l k t:=by
        rw[spans_congr l 40 t2 t HR.out.2.2]
        exact any_lv (spansS l) (spansS_lv l) H40.out.2.2.2.2.1 HI1.out.1.lv
      rw[←e]
      exact h1)
  clear g1 g2 g3 g4 g5 gk g6
  go_wp2_with fail
  go_ret2
  exact HG.out
theorem planBuild (S:ArenaMap AA) {w:World} {a:Value} {F:Nat→Prop} (k:Nat) (t:Tr) (v:Value) (L W:List Tr) (h:AA w a [] F) (ht:Tr.Ins w k t) (hs:slimS k t) (hf:isFormed k t=true) (hz:sizeS k t≤150) (hL:LksAt w v L) (hR:RelL L W) (hU:Uniq W) (h4:W.length≤4) (hh:HasL W 40 t):Calls Tryz.prog 10 #[.agg #[v],a,.agg t.cs.toArray] w fun e w'=>∃(id:Int) (ns:List Nd) (F':Nat→Prop),e=.returned (.tuple #[.int .i64 id,.int .i64 0])∧AA w' a ns F'∧(∀b,F' b→F b∨w.heap.size≤b)∧OffF F w w'∧isIn ns id∧∀l bits:List Nat,(∀b∈l,b<256)→l.length≤8→BitsD L l bits→∀i j,i≤l.length→j≤l.length→nodeT l bits ns id i j=spansS l k t i j:=by
  obtain ⟨w2,hw2⟩:∃w2,w2=(w.alloc (.cells #[v] 34)).alloc (.cells t.cs.toArray 27):=⟨_,rfl⟩
  have hB:Below w.heap.size w w2:=by rw[hw2];exact ((Below.refl _ _).alloc (Nat.le_refl _) _).alloc (by simp) _
  have hA:At ((w.alloc (.cells #[v] 34)).alloc (.cells t.cs.toArray 27)) (w.heap.size+1) 27 t.cs.toArray:=at_new' (w.alloc (.cells #[v] 34)) (w.heap.size+1) 27 (by simp)
  have HC:=Lib.hid (blBuild S k t v L W (S.next h hB) (ht.next hB) hs hf hz (hL.next hB) hR hU h4 hh)
  have HB:=Lib.hid hB
  have HW:=Lib.hid hw2
  obtain ⟨gp,rfl⟩:=S.ptr h
  have hmf:∀(fn:Fn) (first cap:Array Value) (w:World),(Instr.makeFunc fn first cap).run Tryz.prog w=.ok (.func fn first cap) w:=fun _ _ _ _=>rfl
  clear h ht hs hf hz hL hR hU h4 hh hB hw2
  go_enter Tryz.func10,Tryz.ntmps10
  go_wp2_with (first
    | (with_reducible show wpList _ _ _ (⟨some 9,.load 27 _,_,_,_,_⟩::_) _ _
       refine wpList_load_row rfl 27 _ rfl (w.heap.size+1) rfl 27 t.cs.toArray (0,0) _ hA Tryz.underlying27 rfl (by kernel_rfl) ?_)
    | fail)
  rw[←HW.out]
  refine HC.out.mono ?_
  rintro e w3 ⟨id,ns,F',rfl,g1,g2,g3,g4,g5⟩
  have HG:Hid (∃(id':Int) (ns:List Nd) (F':Nat→Prop),(Ending.returned (.tuple #[.int .i64 id,.int .i64 0]))=.returned (.tuple #[.int .i64 id',.int .i64 0])∧AA w3 (.pointer (some ⟨gp,0,none⟩)) ns F'∧(∀b,F' b→F b∨w.heap.size≤b)∧OffF F w w3∧isIn ns id'∧∀l bits:List Nat,(∀b∈l,b<256)→l.length≤8→BitsD L l bits→∀i j,i≤l.length→j≤l.length→nodeT l bits ns id' i j=spansS l k t i j):=Lib.hid ⟨id,ns,F',rfl,g1,fun b z=>(by
    rcases g2 b z with z | z
    · exact Or.inl z
    · exact Or.inr (Nat.le_trans HB.out.size z)),(OffF.of HB.out).off g3 (fun b z=>Or.inl z),g4,g5⟩
  clear g1 g2 g3 g4 g5
  go_wp2_with fail
  go_ret2
  exact HG.out
end
end Go.Proofs.YtgmpfnfomgadeaaGreat

/- LooksFound, awake. -/
set_option linter.unusedSimpArgs false
set_option linter.unusedVariables false
set_option maxHeartbeats 8000000
set_option maxRecDepth 100000
namespace Go.Proofs.YtgmpfnfomgadeaaGreat
open Go.RowKit
theorem pats_one {w:World} {g K:Nat} {t:Tr} (h:At w g 27 t.cs.toArray) (hi:Tr.In w K t):Pats w K (.slice (some ⟨g,0,none⟩) 1 1) [t] :=
  ⟨some ⟨g,0,none⟩,1,rfl,fun _=>⟨g,0,rfl,h.lt,fun j hj i u hu=>by
    have hj':j<1:=hj
    obtain rfl:j=0:=by omega
    show World.cell? _ ⟨g,0+0*9+i,none⟩=some u
    rw[show 0+0*9+i=i by omega,h.cell]
    simpa using hu⟩,fun s hs=>by rw[List.mem_singleton.1 hs];exact hi⟩
theorem lawAwake13 (w:World):Calls Tryz.prog 4 #[] w fun e w'=>e=.returned (.bool true)∧Below w.heap.size w w':=by
  obtain ⟨w1,hw1⟩:∃w1,w1=w.alloc (.cells (leafT 10).cs.toArray 27):=⟨_,rfl⟩
  have hb1:Below w.heap.size w w1:=by rw[hw1];exact (Below.refl _ _).alloc (Nat.le_refl _) _
  have hA1:At w1 w.heap.size 27 (leafT 10).cs.toArray:=by rw[hw1];exact At.new _ _ _
  have h64:I64 10:=by unfold I64;omega
  have hlf:∀W:World,Tr.Ins W 40 (leafT 10):=fun W=>leaf_in W 10 h64 39
  have HM:=Lib.hid (tMake 40 (.slice (some ⟨w.heap.size,0,none⟩) 1 1) [leafT 10] w1 (pats_one hA1 (hlf w1).1) (fun t ht=>by rw[List.mem_singleton.1 ht];exact hlf w1) (by simp))
  have HB1:=Lib.hid hb1
  have HW1:=Lib.hid hw1
  have HLf:=Lib.hid hlf
  clear hb1 hA1 hw1 h64 hlf
  go_enter Tryz.func4,Tryz.ntmps4
  go_wp2_with (first
    | (with_reducible show wpList _ _ _ (⟨some 5,.buildSlice 25 _ _,_,_,_,_⟩::_) _ _
       refine wpList_slice_tr rfl _ (leafT 10) rfl rfl ?_
       rw[←HW1.out])
    | fail)
  refine HM.out.mono ?_
  rintro e w2 ⟨v,L,er,rfl,hb,hlk,hc⟩
  have hf:isFormed 40 (leafT 10)=true:=by kernel_rfl
  have hall:refAll [leafT 10]=[leafT 10]:=rfl
  have hr:er=0∧RelL L [leafT 10]:=by
    rcases hc with ⟨_,_,t,ht,h⟩ | ⟨_,h⟩
    · rw[List.mem_singleton.1 ht,hf] at h;cases h
    · rw[hall] at h
      rcases h with ⟨_,_,h⟩ | ⟨h1,_,h2⟩
      · exact absurd h (by decide)
      · exact ⟨h1,h2⟩
  obtain ⟨rfl,hrel⟩:=hr
  have hl1:L.length=1:=hrel.length
  obtain ⟨A,c,rfl,_,_⟩:=id hlk.1
  have HB2:=Lib.hid (HB1.out.trans (hb.mono HB1.out.size))
  have HLk:=Lib.hid hlk
  have hz:idxS L (leafT 10)=0:=by
    have hu:Uniq [leafT 10]:=by rw[←hall];exact uniq_all (fun t ht=>by rw[List.mem_singleton.1 ht];exact (HLf.out w2).1.lv)
    exact idx_at hrel hu (i:=0) (by simp) rfl
  have HZ:=Lib.hid hz
  have hal:Below w2.heap.size w2 (w2.alloc (.cells #[.slice A L.length c] 34)):=(Below.refl _ _).alloc (Nat.le_refl _) _
  have HIx:=Lib.hid (tIndex (.slice A L.length c) L (leafT 10) (w2.alloc (.cells #[.slice A L.length c] 34)) (hlk.next hal) (by omega) (HLf.out _))
  have HB3:=Lib.hid (HB2.out.trans (hal.mono HB2.out.size))
  rw[HZ.out] at HIx
  have hA3:At (w2.alloc (.cells #[.slice A L.length c] 34)) w2.heap.size 34 #[.slice A L.length c]:=At.new _ _ _
  rw[hl1] at HIx hA3 HB3 ⊢
  have x0:=hA3.cell 0
  clear hb hlk hc hf hall hrel hl1 hz hal
  go_wp2_with (first
    | (with_reducible show wpList _ _ _ (⟨some 18,.load 34 _,_,_,_,_⟩::_) _ _
       refine wpList_load_row_want (by rfl) 34 _ rfl w2.heap.size rfl 34 #[.slice A 1 c] (0,0) _ hA3 Tryz.underlying34 rfl (by kernel_rfl) ?_)
    | fail)
  refine HIx.out.mono ?_
  rintro e w4 ⟨rfl,hb4⟩
  have HB4:=Lib.hid (HB3.out.trans (hb4.mono HB3.out.size))
  clear hb4 hA3 x0
  go_wp2_with fail
  go_ret
  exact ⟨rfl,HB4.out⟩
end Go.Proofs.YtgmpfnfomgadeaaGreat
