/- Joined: GnJoined, NormOrM. -/
import Derived.Test.YthifbaacmohmnaaGreatMax
import Derived.Test.YthifbaacmohmnaaGreatMal
import Derived.Test.YthifbaacmohmnaaGreatMbi
import Derived.Test.YthifbaacmohmnaaGreatMbh
import Derived.Test.YthifbaacmohmnaaGreatMbe
import Derived.Test.YthifbaacmohmnaaGreatMam
/- norm.joined of any nodes of an arena that may get full. -/
namespace Go.Proofs.YthifbaacmohmnaaGreat
open Go.RowKit Go.Shelf
set_option linter.unusedSimpArgs false
set_option linter.unusedVariables false

attribute [local go_sem] Oper.semAt_some

/-- r matches what one of l does (k is 4), what all of l do (else). -/
def ParT (ns : List Nd) (k : Int) (l : List Int) (ms : List Nd) (r : Int) : Prop := ∀ (L bits : List Nat) (i j : Nat), Byt L → i ≤ j → j ≤ L.length → nodeT L bits ms r i j = if k = 4 then l.any (fun x => nodeT L bits ns x i j) else l.all (fun x => nodeT L bits ns x i j)
theorem par_one (ns : List Nd) (k x : Int) : ParT ns k [x] ns x := fun L bits i j _ _ _ => by
  by_cases h : k = 4
  · rw [if_pos h]; simp
  · rw [if_neg h]; simp
theorem any_mem {l m : List Int} (h : ∀ y, y ∈ l ↔ y ∈ m) (f : Int → Bool) : l.any f = m.any f := by
  rw [Bool.eq_iff_iff, List.any_eq_true, List.any_eq_true]
  exact ⟨fun ⟨y, a, b⟩ => ⟨y, (h y).1 a, b⟩, fun ⟨y, a, b⟩ => ⟨y, (h y).2 a, b⟩⟩
theorem all_mem {l m : List Int} (h : ∀ y, y ∈ l ↔ y ∈ m) (f : Int → Bool) : l.all f = m.all f := by
  rw [Bool.eq_iff_iff, List.all_eq_true, List.all_eq_true]
  exact ⟨fun a y hy => a y ((h y).2 hy), fun a y hy => a y ((h y).1 hy)⟩
theorem ParT.perm {ns ms : List Nd} {k r : Int} {l m : List Int} (h : ParT ns k l ms r) (hm : ∀ y, y ∈ l ↔ y ∈ m) : ParT ns k m ms r := fun L bits i j h0 h1 h2 => by
  rw [h L bits i j h0 h1 h2, any_mem hm, all_mem hm]
theorem par_cons {ns m0 m2 : List Nd} {k x r r2 : Int} {l : List Int} (hk : k = 4 ∨ k = 5) (hf : FineN ns) (hfm : FineN ((ns ++ m0) ++ m2)) (hx : isIn ns x) (hr : isIn (ns ++ m0) r) (h2 : isIn ((ns ++ m0) ++ m2) r2) (hn : ndAt ((ns ++ m0) ++ m2) r2.toNat = ⟨k, noSt, x, r, false⟩) (h : ParT ns k l (ns ++ m0) r) : ParT ns k (x :: l) ((ns ++ m0) ++ m2) r2 := fun L bits i j hL h3 h4 => by
  have k3 : kd ((ns ++ m0) ++ m2) r2 = k := by unfold kd; rw [hn]
  have ka' : ka ((ns ++ m0) ++ m2) r2 = x := by unfold ka; rw [hn]
  have kb' : kb ((ns ++ m0) ++ m2) r2 = r := by unfold kb; rw [hn]
  have e1 : nodeT L bits ((ns ++ m0) ++ m2) x = nodeT L bits ns x := by rw [nodeT_up L bits m2 (hx.up m0), nodeT_up L bits m0 hx]
  have e2 : nodeT L bits ((ns ++ m0) ++ m2) r i j = _ := (congrFun (congrFun (nodeT_up L bits m2 hr) i) j).trans (h L bits i j hL h3 h4)
  rcases hk with rfl | rfl
  · rw [T_or hfm h2 k3, ka', kb']
    show (nodeT L bits ((ns ++ m0) ++ m2) x i j || nodeT L bits ((ns ++ m0) ++ m2) r i j) = _
    rw [e1, e2, if_pos rfl, if_pos rfl, List.any_cons]
  · rw [T_and hfm h2 k3, ka', kb']
    show (nodeT L bits ((ns ++ m0) ++ m2) x i j && nodeT L bits ((ns ++ m0) ++ m2) r i j) = _
    rw [e1, e2, if_neg (by decide), if_neg (by decide), List.all_cons]
theorem right_no {k x : Int} {n : Nat} (hk : k = 4 ∨ k = 5) : (Nd.mk k noSt x (-1) false).right n = false := by
  unfold Nd.right aIn
  rcases hk with rfl | rfl <;> simp
theorem right_no2 {k r : Int} {n : Nat} (hk : k = 4 ∨ k = 5) : (Nd.mk k noSt (-1) r false).right n = false := by
  unfold Nd.right aIn
  rcases hk with rfl | rfl <;> simp
theorem sorted_iff {L : List Int} {y : Int} : y ∈ sorted L ↔ y ∈ L := (List.mergeSort_perm L _).mem_iff
theorem drop_last {l : List Int} {p : Nat} (h : l.length = p + 1) : l.drop p = [l[p]'(by omega)] := by
  rw [List.drop_eq_getElem_cons (by omega), List.drop_of_length_le (by omega)]
section
variable {AA : World → Value → List Nd → (Nat → Prop) → Prop}
/-- put of a node that may be, or not. -/
theorem gPutAny (S : ArenaAny AA) {w : World} {a : Value} {ns : List Nd} {F : Nat → Prop} (x : Nd) (h : AA w a ns F) (hx : NdFit x) :
    Calls Tryz.prog 57 #[a, .agg x.cs.toArray] w (Got AA w a ns F fun ms r => x.right ns.length = true ∧ ndAt ms r.toNat = x) := by
  by_cases hr : x.right ns.length = true
  · exact (gPut S x h hx hr).mono (fun _ _ g => g.mono (fun more r q _ _ => ⟨hr, q⟩) S.toArenaMid)
  · refine (nPutNo S.toArenaMid x h hx (Bool.eq_false_iff.2 hr)).mono ?_
    rintro e w1 ⟨rfl, hb⟩
    exact Got.no S.toArenaMid h hb
def JoinedG (AA : World → Value → List Nd → (Nat → Prop) → Prop) (w : World) (a v : Value) (ns : List Nd) (F : Nat → Prop) (k : Int) (l : List Int) (e : Ending) (w' : World) : Prop :=
  ∃ (r : Int) (more : List Nd) (F' : Nat → Prop), e = .returned (.int .i64 r) ∧ AA w' a (ns ++ more) F' ∧ (∀ b, F' b → F b ∨ w.heap.size ≤ b) ∧ OffF (fun b => F b ∨ v.ownBlock = some b) w w' ∧ (r = -1 ∨ (isIn (ns ++ more) r ∧ ParT ns k l (ns ++ more) r ∧ ∀ x ∈ l, isIn ns x))
/-- Between two rounds: what lies in the arena and in the variables of the loop. -/
structure JIg (AB : World → Value → List Nd → (Nat → Prop) → Prop) (w : World) (a : Value) (ns : List Nd) (F : Nat → Prop) (k : Int) (sl zs : List Int) (p B g bi : Nat) (pre : List (Nat × Num)) (W : World) (ns' : List Nd) (F' : Nat → Prop) (r : Int) : Prop where
  ab : AB W a ns' F'
  low : ∀ b, F' b → F b ∨ B ≤ b
  off : OffF (fun b => F b ∨ g = b) w W
  int : I64 r
  grow : ∃ more, ns' = ns ++ more
  box : At W w.heap.size 26 #[a]
  kind : At W (w.heap.size + 1) 3 #[.int .i64 k]
  id : At W bi 3 #[.int .i64 r]
  size : B ≤ W.heap.size
  right : pre = backTo zs pre.length → (r = -1 ∨ (isIn ns' r ∧ ParT ns k (sl.drop (p - pre.length)) ns' r ∧ ∀ x ∈ sl.drop (p - pre.length), isIn ns x))

set_option maxRecDepth 100000 in
set_option maxHeartbeats 16000000 in
theorem gJoined (S : ArenaFix AA) {w : World} {a v : Value} {ns : List Nd} {F : Nat → Prop} {B0 : Nat} (k : Int) (hk : k = 4 ∨ k = 5) (l : List Int) (h : AA w a ns F) (hv : IdRow w B0 v l) (h0 : 0 < l.length) (hvF : ∀ b, v.ownBlock = some b → ¬ F b) (hin : ∀ x ∈ l, isIn ns x ∨ x = -1) (hns : 0 < ns.length) (hl : l.length ≤ 100000) :
    Calls Tryz.prog 128 #[a, .int .i64 k, v] w (JoinedG AA w a v ns F k l) := by
  obtain ⟨p, hp⟩ : ∃ p, l.length = p + 1 := ⟨l.length - 1, by omega⟩
  have hsl : (sorted l).length = p + 1 := by unfold sorted; rw [List.length_mergeSort, hp]
  obtain ⟨g, cap, ev, _⟩ := hv.form h0
  rw [hp] at ev
  subst ev
  obtain ⟨w2, hw2⟩ : ∃ w2, w2 = (w.alloc (.cells #[a] 26)).alloc (.cells #[.int .i64 k] 3) := ⟨_, rfl⟩
  have hB2 : Below w.heap.size w w2 := by rw [hw2]; exact ((Below.refl _ _).alloc (Nat.le_refl _) _).alloc (by simp) _
  have hs2 : w2.heap.size = w.heap.size + 2 := by rw [hw2]; simp
  have HSo := Lib.hid (nSort (hv.next hB2) h0 (by omega))
  have HW2 := Lib.hid hw2
  rw [hw2] at HSo
  have HA := Lib.hid h
  have HV := Lib.hid hv
  have HvF := Lib.hid hvF
  have hin2 : ∀ x ∈ sorted l, isIn ns x ∨ x = -1 := fun x hx => hin x (sorted_iff.1 hx)
  have HG := Lib.hid hin2
  have HMx := Lib.hid (S.max h)
  have HFi := Lib.hid (S.fine h)
  have HSl := Lib.hid hsl
  have HB2 := Lib.hid hB2
  have HS2 := Lib.hid hs2
  have HK := Lib.hid hk
  have HP := Lib.hid hp
  obtain ⟨gp, rfl⟩ := S.ptr h
  have hpb : p ≤ 100000 := by omega
  clear h hv hvF hin hin2 hl hsl hB2 hw2 hs2 hk h0
  have hpz : (0 : Int) ≤ (p : Int) := by omega
  have hpw : IntKind.i64.wrap ((p : Int) + 1 - 1) = (p : Int) := by rw [IntWalk.i64_left, IntWalk.wrap64_in _ (by omega)]; omega
  refine (callsIn_wide (n := 6)).1 ?_
  refine callsIn_of_wp_marks Tryz.func128 rfl trivial ?_ rfl
  simp only [Tryz.ntmps128, List.size_toArray, List.length_cons, List.length_nil, Nat.reduceAdd, Nat.reduceSub, Array.replicate_succ, Array.replicate_zero, List.push_toArray, List.append_toArray, List.nil_append, List.cons_append]
  gi_wp2_with fail
  refine ⟨trivial, ?_⟩
  refine (callsIn_wide.2 HSo.out).mono ?_
  rintro e w3 ⟨rfl, hr3, hg3⟩
  have hr3 : IdRow w3 B0 (.slice (some ⟨g, 0, none⟩) (p + 1) cap) (sorted l) := hr3
  rw [← HW2.out] at hg3
  have hg3 : w2.grownBy w3 (some g) := hg3
  obtain ⟨g', cap', eg, hcs⟩ := hr3.form (by rw [HSl.out]; omega)
  obtain rfl : g = g' := by
    injection eg with eg _ _
    injection eg with eg
    injection eg
  clear eg
  have hx3 := hcs p (by rw [HSl.out]; omega)
  have HGs := Lib.hid (hr3.lt (c := g) rfl)
  have HGv := Lib.hid (HV.out.lt (c := g) rfl)
  obtain ⟨x0, hx0⟩ : ∃ x0, x0 = (sorted l)[p]'(by rw [HSl.out]; omega) := ⟨_, rfl⟩
  rw [← hx0] at hx3
  have HX0 := Lib.hid hx0
  have HR3 := Lib.hid hr3
  have HCs := Lib.hid hcs
  have HG3 := Lib.hid hg3
  have hcp : (p : Int) ≤ (cap : Int) := by
    obtain ⟨_, q⟩ := hr3
    rcases q with ⟨q, _⟩ | ⟨_, _, _, q, _, _, q1, _⟩
    · cases q
    · injection q with q1' q2' q3'
      rw [HSl.out, ← q3'] at q1
      omega
  have hpn : (p : Int) < (p : Int) + 1 := by omega
  obtain ⟨w5, hw5⟩ : ∃ w5, w5 = (w3.alloc (.cells #[.int .i64 x0] 3)).alloc (.cells #[.slice (some ⟨g, 0, none⟩) p cap] 80) := ⟨_, rfl⟩
  have HW5 := Lib.hid hw5
  have HBk : Hid (CallsIn Fence.wide 5 Tryz.prog 122 #[.slice (some ⟨g, 0, none⟩) p cap] (w3.alloc (.cells #[.int .i64 x0] 3)) fun e w' => e = .returned (.func (.func 162) #[] #[.pointer (some ⟨w3.heap.size + 1, 0, none⟩)]) ∧ w' = w5) := Lib.hid (by
    have := back_in Fence.wide 5 trivial rfl (.slice (some ⟨g, 0, none⟩) p cap) (some ⟨g, 0, none⟩) p cap rfl (w3.alloc (.cells #[.int .i64 x0] 3))
    rw [World.size_alloc] at this
    rw [hw5]; exact this)
  clear hr3 hcs hg3 hx0 hw5
  gi_wp2_with fail
  refine ⟨trivial, ?_⟩
  refine HBk.out.mono ?_
  rintro e w6 ⟨rfl, rfl⟩
  gi_wp2_with fail
  have HSz : Hid (w2.heap.size ≤ w3.heap.size) := Lib.hid HG3.out.size
  have hs5 : w6.heap.size = w3.heap.size + 2 := by rw [HW5.out]; simp
  have HS5 := Lib.hid hs5
  obtain ⟨zs, hzs⟩ : ∃ zs, zs = (sorted l).take p := ⟨_, rfl⟩
  have hzl : zs.length = p := by rw [hzs, List.length_take, HSl.out]; omega
  have hzj : ∀ j (hj : j < p), zs[j]?.getD 0 = (sorted l)[j]'(by rw [HSl.out]; omega) := fun j hj => by
    have e : zs[j]? = (sorted l)[j]? := by rw [hzs]; exact List.getElem?_take_of_lt hj
    rw [e, List.getElem?_eq_getElem (by rw [HSl.out]; omega)]; rfl
  have hzI : ∀ j, j < zs.length → I64 (zs[j]?.getD 0) := fun j hj => by
    rw [hzl] at hj
    rw [hzj j hj]
    have h1 := HG.out _ (List.getElem_mem (show j < (sorted l).length by rw [HSl.out]; omega))
    have h2 := HMx.out
    rcases h1 with this | h1
    · unfold isIn at this
      unfold I64
      omega
    · rw [h1]; unfold I64; omega
  have hkI : I64 k := by have := HK.out; unfold I64; omega
  obtain ⟨AB, m, SB, hAB, hm, hup, hmB⟩ := S.part HA.out hns
  have HFl : Hid (∀ b, F b → b < w.heap.size) := Lib.hid (SB.low hAB)
  have HGn : Hid (¬ F g) := Lib.hid (HvF.out g rfl)
  have hat : ∀ b, b < w2.heap.size → b ≠ g → w6.heap[b]? = w2.heap[b]? := fun b hb hn => by
    rw [HW5.out]
    rw [Below.heap_alloc _ _ _ (by rw [World.size_alloc]; have := HSz.out; omega), Below.heap_alloc _ _ _ (by have := HSz.out; omega)]
    exact HG3.out.block b hb (fun e => by injection e with e; exact hn e)
  have hAB6 : AB w6 (.pointer (some ⟨gp, 0, none⟩)) ns F := SB.keep hAB (fun b hb => by
    have h1 := HFl.out b hb
    rw [hat b (by have := HS2.out; omega) (fun e => HGn.out (by rw [← e]; exact hb))]
    exact HB2.out.block b h1)
  have hO6 : OffF (fun b => F b ∨ g = b) w w6 := by
    rw [HW5.out]
    exact ((((OffF.of HB2.out).grown HG3.out (fun b e => by injection e with e; exact Or.inl (Or.inr e))).then ((Below.refl _ _).alloc (Nat.le_refl _) _)).then ((Below.refl _ _).alloc (Nat.le_refl _) _))
  have hbox : At w6 w.heap.size 26 #[.pointer (some ⟨gp, 0, none⟩)] := by
    refine (hat _ (by have := HS2.out; omega) (fun e => by have := HGv.out; omega)).trans ?_
    rw [HW2.out]; exact (At.new w _ _).alloc _
  have hknd : At w6 (w.heap.size + 1) 3 #[.int .i64 k] := by
    refine (hat _ (by have := HS2.out; omega) (fun e => by have := HGv.out; omega)).trans ?_
    have := At.new (w.alloc (.cells #[.pointer (some ⟨gp, 0, none⟩)] 26)) 3 #[.int .i64 k]
    rw [World.size_alloc] at this
    rw [HW2.out]; exact this
  have hid6 : At w6 w3.heap.size 3 #[.int .i64 x0] := by rw [HW5.out]; exact (At.new _ _ _).alloc _
  have hx0I : I64 x0 := by
    have h1 := HG.out x0 (by rw [HX0.out]; exact List.getElem_mem _)
    have h2 := HMx.out
    rcases h1 with this | h1
    · unfold isIn at this
      unfold I64
      omega
    · rw [h1]; unfold I64; omega
  have hJ0 : JIg AB w (.pointer (some ⟨gp, 0, none⟩)) ns F k (sorted l) zs p w6.heap.size g w3.heap.size [] w6 ns F x0 :=
    ⟨hAB6, fun b q => Or.inl q, hO6, hx0I, ⟨[], by rw [List.append_nil]⟩, hbox, hknd, hid6, Nat.le_refl _, fun _ => by
      have hxm : x0 ∈ sorted l := by rw [HX0.out]; exact List.getElem_mem _
      rcases HG.out x0 hxm with hxi | hxi
      · right
        have e : (sorted l).drop p = [x0] := by rw [HX0.out]; exact drop_last (by rw [HSl.out])
        rw [List.length_nil, Nat.sub_zero, e]
        exact ⟨hxi, par_one ns k x0, fun y hy => by rw [List.mem_singleton.1 hy]; exact hxi⟩
      · exact Or.inl hxi⟩
  have hgs : g < w6.heap.size := by have := HGs.out; omega
  have hBs : w6.cell? ⟨w3.heap.size + 1, 0, none⟩ = some (.slice (some ⟨g, 0, none⟩) zs.length cap) := by
    have := (At.new (w3.alloc (.cells #[.int .i64 x0] 3)) 80 #[.slice (some ⟨g, 0, none⟩) p cap]).cell 0
    rw [World.size_alloc] at this
    rw [HW5.out, hzl]; exact this
  have hcz : ∀ j, j < zs.length → w6.cell? ⟨g, j, none⟩ = some (.int .i64 (zs[j]?.getD 0)) := fun j hj => by
    rw [hzl] at hj
    rw [hzj j hj, HW5.out]
    have := HCs.out j (by rw [HSl.out]; omega)
    exact (World.cell?_of_block (a := ⟨g, j, none⟩) ((Below.heap_alloc _ _ g (by rw [World.size_alloc]; have := HGs.out; omega)).trans (Below.heap_alloc _ _ g (by have := HGs.out; omega)))).trans this
  have HJ0 := Lib.hid hJ0
  have hI : OwnFrom w6.heap.size (fun (pre : List (Nat × Num)) W => ∃ ns' F' r, JIg AB w (.pointer (some ⟨gp, 0, none⟩)) ns F k (sorted l) zs p w6.heap.size g w3.heap.size pre W ns' F' r) := fun pre X Y row hs hg hr => by
    obtain ⟨ns', F', r, j⟩ := hs
    have hrc : ∀ r, row = some r → ∃ o : Obj, X.heap[r]? = some o ∧ o.isCells = false := fun r e => (hr r e).2
    refine ⟨ns', F', r, SB.keep j.ab (fun b hb => hg.block b (SB.low j.ab b hb) (fun e => ?_)), j.low, j.off.grown hg (fun b e => Or.inr ?_), j.int, j.grow, at_kept j.box hg hrc, at_kept j.kind hg hrc, at_kept j.id hg hrc, Nat.le_trans j.size hg.size, j.right⟩
    · obtain ⟨h1, o, h2, h3⟩ := hr b e.symm
      have := hmB j.ab hb h2 (fun cs t p q => by rw [q] at h3; cases h3)
      have h4 := HB2.out.size
      have h5 := HSz.out
      omega
    · obtain ⟨h1, _⟩ := hr b e
      have h4 := HB2.out.size
      have h5 := HSz.out
      omega
  refine wpIn_rangeFunc_ownG (α := Nat × Num) rfl (by omega) (gf := 162) (lb := #[.pointer (some ⟨w3.heap.size + 1, 0, none⟩)]) rfl trivial (enters_of Tryz.func162 (by kernel_rfl) rfl)
    (back_stops Fence.wide _ trivial rfl (by omega) (w3.heap.size + 1) g cap zs (by omega) hzI w6 (by omega) hgs hBs hcz) (fun h k => h.trans k)
    (fun W lw o o' hl ho _ _ => ⟨World.putObj_heap_other (by omega), World.putObj_heap_other (by omega)⟩) (Below.refl _ _) (fun _ => rfl)
    (fun pre W => ∃ ns' F' r, JIg AB w (.pointer (some ⟨gp, 0, none⟩)) ns F k (sorted l) zs p w6.heap.size g w3.heap.size pre W ns' F' r)
    (fun _ _ _ => False) hI (fun _ _ _ _ _ hs _ _ => hs) ⟨_, _, _, hJ0⟩
    (fun x => { tmps := #[.pointer (some ⟨gp, 0, none⟩), .int .i64 k, .slice (some ⟨g, 0, none⟩) (p + 1) cap, .pointer (some ⟨w.heap.size, 0, none⟩), .pointer (some ⟨w.heap.size + 1, 0, none⟩), undef, .int .i64 0, .int .i64 p, .pointer (some ⟨w3.heap.size, 0, none⟩), undef, .int .i64 x.2.1, .slice (some ⟨g, 0, none⟩) (p + 1) cap, .tuple #[], .slice (some ⟨g, 0, none⟩) (p + 1) cap, .int .i64 (p + 1), .int .i64 p, .slice (some ⟨g, 0, none⟩) (p + 1) cap, .int .i64 p, .pointer (some ⟨g, p, none⟩), .int .i64 x0, .slice (some ⟨g, 0, none⟩) (p + 1) cap, .int .i64 p, .slice (some ⟨g, 0, none⟩) p cap, .func (.func 162) #[] #[.pointer (some ⟨w3.heap.size + 1, 0, none⟩)], .int .i64 (x.1 : Int), .int .i64 x.2.1, undef, undef, undef, undef, undef, undef, undef], defers := [] }) ?assign ?body ?done ?stop
  case assign =>
    intro l x W K hK
    gi_wp2
    exact hK
  case stop =>
    rintro D c pre W _ _ h _
    exact h.elim
  case done =>
    rintro D ys W hD rfl ⟨ns', F', r, j⟩ hDD
    have c0 := j.id.cell 0
    have hst := j.right (by rw [backTo_length])
    rw [backTo_length, hzl, Nat.sub_self, List.drop_zero] at hst
    obtain ⟨more, hmore⟩ := j.grow
    have hput : JoinedG AA w (.pointer (some ⟨gp, 0, none⟩)) (.slice (some ⟨g, 0, none⟩) (p + 1) cap) ns F k l (.returned (.int .i64 r)) (W.putObj D (.deferred none)) := by
      have hgr := grownBy_putObj' W D (.deferred none)
      have hw6 : w.heap.size ≤ w6.heap.size := by have := HB2.out.size; have := HSz.out; omega
      have hAAd : AA (W.putObj D (.deferred none)) (.pointer (some ⟨gp, 0, none⟩)) ns' F' := hup (SB.keep j.ab (fun b hb => hgr.block b (SB.low j.ab b hb) (fun e => by
        injection e with e
        have h4 := hmB j.ab hb (by rw [e]; exact hDD) (fun cs t p q => by cases q)
        omega)))
      rw [hmore] at hAAd hst
      refine ⟨r, more, F', rfl, hAAd, fun b q => ?_, ?_, hst.imp id (fun z => ⟨z.1, z.2.1.perm (fun y => sorted_iff), fun y hy => z.2.2 y (sorted_iff.2 hy)⟩)⟩
      · rcases j.low b q with q | q
        · exact Or.inl q
        · exact Or.inr (by omega)
      · have := j.off.grown hgr (fun b e => Or.inr (by injection e with e; omega))
        exact ⟨this.os, this.tape, this.output, this.size, fun b hb hn => this.block b hb (fun q => hn (by
          rcases q with q | q
          · exact Or.inl q
          · exact Or.inr (by rw [← q]; rfl)))⟩
    have HPu := Lib.hid hput
    clear hput hst
    gi_wp2
    refine ⟨by simp, .inl ⟨_, _, rfl, run_takeDeferred hDD, ?_⟩⟩
    refine ⟨_, results_tmp rfl _ _ _, ?_⟩
    exact HPu.out
  case body =>
    rintro lw pre ⟨q, x, hxI⟩ W ⟨ns', F', r, j⟩ hlen
    rw [hzl] at hlen
    have c0 := j.box.cell 0
    have c1 := j.kind.cell 0
    have c2 := j.id.cell 0
    have f2 := j.id.free 0
    have hgrow := j.grow
    have hpl := HP.out
    have HPu := Lib.hid (gPutAny SB (Nd.mk k noSt x r false) j.ab (fit_small _ _ _ _ hkI hxI j.int))
    have hmxB := SB.max j.ab
    gi_wp2_with fail
    refine ⟨trivial, ?_⟩
    refine (CallsIn.inRound lw (callsIn_wide.2 HPu.out)).mono ?_
    rintro e W6 ⟨r2, more2, F2, rfl, hA6, hF6, ho6, hr6⟩
    have hmxC := SB.max hA6
    have HFc := Lib.hid (SB.fine hA6)
    have hq6 : W.heap.size ≤ W6.heap.size := ho6.size
    have hb6 : ∀ b, b < W.heap.size → ¬ F' b → W6.heap[b]? = W.heap[b]? := ho6.block
    have hnF : ∀ b, b < w6.heap.size → ¬ F b → ¬ F' b := fun b h1 h2 q => by
      rcases j.low b q with q | q
      · exact h2 q
      · omega
    have hw6 : w.heap.size ≤ w6.heap.size := by have := HB2.out.size; have := HSz.out; omega
    have hnew : ∀ b, w.heap.size ≤ b → ¬ F b := fun b h1 q => by have := HFl.out b q; omega
    have hidW : At W6 w3.heap.size 3 #[.int .i64 r] := (hb6 _ j.id.lt (hnF _ (by omega) (hnew _ (by have := HSz.out; have := HS2.out; omega)))).trans j.id
    have hboxW : At W6 w.heap.size 26 #[.pointer (some ⟨gp, 0, none⟩)] := (hb6 _ j.box.lt (hnF _ (by have := HSz.out; have := HS2.out; omega) (hnew _ (Nat.le_refl _)))).trans j.box
    have hkW : At W6 (w.heap.size + 1) 3 #[.int .i64 k] := (hb6 _ j.kind.lt (hnF _ (by have := HSz.out; have := HS2.out; omega) (hnew _ (by omega)))).trans j.kind
    have c6 := hidW.cell 0
    have f6 := hidW.free 0
    have hrI : I64 r2 := by
      rcases hr6 with rfl | ⟨q, _⟩
      · unfold I64; omega
      · unfold isIn at q; unfold I64; omega
    have hgrow2 : ∃ more, ns' ++ more2 = ns ++ more := by
      obtain ⟨m, e⟩ := hgrow
      exact ⟨m ++ more2, by rw [e, List.append_assoc]⟩
    have HM : Hid (w3.heap.size ≠ w.heap.size ∧ w3.heap.size ≠ w.heap.size + 1 ∧ w3.heap.size ≠ w3.heap.size + 1 ∧ w3.heap.size ≠ g ∧ w3.heap.size < w6.heap.size) := Lib.hid (by have := HSz.out; have := HS2.out; have := HGs.out; omega)
    have hbnd : ∀ b, w3.heap.size ≠ b → (W6.setCell ⟨w3.heap.size, 0, none⟩ (.int .i64 r2)).heap[b]? = W6.heap[b]? := fun b hb => Below.heap_setCell W6 ⟨w3.heap.size, 0, none⟩ _ b (fun e => hb e.symm)
    have hF2n : ¬ F2 w3.heap.size := fun z => by
      rcases hF6 _ z with z | z
      · exact hnF _ HM.out.2.2.2.2 (hnew _ (by have := HSz.out; have := HS2.out; omega)) z
      · have := j.size; have := HM.out.2.2.2.2; omega
    have HFin : Hid (KeepsFrom w6.heap.size W (W6.setCell ⟨w3.heap.size, 0, none⟩ (.int .i64 r2)) ∧ KeepsTwo (w3.heap.size + 1) g W (W6.setCell ⟨w3.heap.size, 0, none⟩ (.int .i64 r2)) ∧ JIg AB w (.pointer (some ⟨gp, 0, none⟩)) ns F k (sorted l) zs p w6.heap.size g w3.heap.size (pre ++ [(q, (⟨x, hxI⟩ : Num))]) (W6.setCell ⟨w3.heap.size, 0, none⟩ (.int .i64 r2)) (ns' ++ more2) F2 r2) := Lib.hid (by
      refine ⟨⟨by rw [World.size_setCell]; exact hq6, fun b o hb ho hn => ?_⟩, ⟨?_, ?_⟩, SB.keep hA6 (fun b q => hbnd b (fun e => hF2n (by rw [e]; exact q))), fun b q => ?_, ?_, hrI, hgrow2, ?_, ?_, ?_, ?_, fun hpre => ?_⟩
      · have hblt := (Array.getElem?_eq_some_iff.1 ho).1
        rw [hbnd b (by have := HM.out.2.2.2.2; omega), hb6 b hblt (fun z => ?_)]
        · exact ho
        · have := hmB j.ab z ho (fun cs t p q => by rw [q] at hn; cases hn)
          omega
      · rw [hbnd _ HM.out.2.2.1]
        exact hb6 _ (by have := j.size; omega) (hnF _ (by omega) (hnew _ (by have := HSz.out; have := HS2.out; omega)))
      · rw [hbnd _ HM.out.2.2.2.1]
        exact hb6 _ (by have := j.size; omega) (hnF _ hgs HGn.out)
      · rcases hF6 b q with q | q
        · exact j.low b q
        · exact Or.inr (Nat.le_trans j.size q)
      · have h1 : OffF (fun b => F b ∨ g = b) w W6 := by
          refine ⟨ho6.os.trans j.off.os, ho6.tape.trans j.off.tape, ho6.output.trans j.off.output, Nat.le_trans j.off.size ho6.size, fun b hb hn => ?_⟩
          rw [ho6.block b (Nat.lt_of_lt_of_le hb j.off.size) (hnF b (by omega) (fun z => hn (Or.inl z)))]
          exact j.off.block b hb hn
        refine ⟨h1.os, h1.tape, h1.output, by rw [World.size_setCell]; exact h1.size, fun b hb hn => ?_⟩
        rw [hbnd b (by have := HSz.out; have := HS2.out; omega)]
        exact h1.block b hb hn
      · exact hboxW.other (fun e => HM.out.1 e.symm) _
      · exact hkW.other (fun e => HM.out.2.1 e.symm) _
      · exact hidW.set 0 _
      · rw [World.size_setCell]; exact Nat.le_trans j.size hq6
      · rw [List.length_append, List.length_singleton, backTo_succ] at hpre
        obtain ⟨e1, e2⟩ := List.append_inj' hpre rfl
        injection e2 with e2 _
        injection e2 with e2 e3
        have e3 : x = zs[zs.length - 1 - pre.length]?.getD 0 := by
          have := congrArg Subtype.val e3
          rw [numOf_is (hzI _ (by omega))] at this
          exact this
        have hst := j.right e1
        rw [hzl] at e3
        rw [hzj _ (by omega)] at e3
        obtain ⟨t, ht⟩ : ∃ t, t = p - 1 - pre.length := ⟨_, rfl⟩
        rw [show p - pre.length = t + 1 by omega] at hst
        have e4 : (sorted l)[t]'(by rw [HSl.out]; omega) = x := by
          have e5 : (sorted l)[t]'(by rw [HSl.out]; omega) = (sorted l)[p - 1 - pre.length]'(by rw [HSl.out]; omega) := by simp only [ht]
          exact e5.trans e3.symm
        rw [List.length_append, List.length_singleton, show p - (pre.length + 1) = t by omega]
        rcases hr6 with e6 | ⟨h1, h2, h3⟩
        · exact Or.inl e6
        · right
          refine ⟨h1, ?_⟩
          have hxin : isIn ns x := by
            have htm : (sorted l)[t]'(by rw [HSl.out]; omega) ∈ sorted l := List.getElem_mem _
            rcases HG.out _ htm with q | q
            · rw [← e4]; exact q
            · rw [e4] at q
              rw [q] at h2
              exact absurd h2 (by rw [right_no2 HK.out]; simp)
          obtain ⟨m0, hm0⟩ := hgrow
          rcases hst with e7 | ⟨s1, s2, s3⟩
          · rw [e7] at h2
            exact absurd h2 (by rw [right_no HK.out]; simp)
          · rw [show (sorted l).drop t = x :: (sorted l).drop (t + 1) by rw [← e4]; exact List.drop_eq_getElem_cons (by rw [HSl.out]; omega)]
            rw [hm0] at h1 h3 s1 s2 HFc ⊢
            exact ⟨par_cons HK.out (ns := ns) HFi.out HFc.out hxin s1 h1 h3 s2, fun y hy => by
              rcases List.mem_cons.1 hy with e | e
              · rw [e]; exact hxin
              · exact s3 y e⟩)
    clear hA6 hF6 ho6 hq6 hb6 hnF hnew hidW hboxW hkW hrI hgrow2 hbnd hF2n hI hJ0 hr6
    gi_wp2
    exact ⟨HFin.out.1, HFin.out.2.1, _, _, _, HFin.out.2.2⟩
end

end Go.Proofs.YthifbaacmohmnaaGreat

/- What the members of nodes are put together to: mathematics; no program is named. -/
namespace Go.Proofs.YthifbaacmohmnaaGreat
open Go.RowKit
set_option linter.unusedSimpArgs false
set_option linter.unusedVariables false
set_option linter.unusedSectionVars false

/-- ms are the members of the nodes of l. -/
structure Coll (ns : List Nd) (k : Int) (l ms : List Int) : Prop where
  lin : ∀ x ∈ l, isIn ns x
  nd : ms.Nodup
  iff : ∀ y, y ∈ ms ↔ ∃ x ∈ l, y ∈ mem ns k x
def otherB (ns : List Nd) (k y : Int) : Bool := !decide (kd ns y = 2) && !unitB ns k y
/-- The set of the Bytes among them: their union; what they have in common. -/
def BytesOf (ns : List Nd) (k : Int) (ms : List Int) (U : St) : Prop := U.Ok ∧ ∀ b, b < 256 → ((U.has b != decide (k = 5)) = true ↔ ∃ y ∈ ms, kd ns y = 2 ∧ ((ndAt ns y.toNat).set.has b != decide (k = 5)) = true)
section
variable {ns : List Nd} (hc : Canon ns) {k : Int} (hk : k = 4 ∨ k = 5)
include hc hk
theorem Coll.inn {l ms : List Int} (h : Coll ns k l ms) {y : Int} (hy : y ∈ ms) : isIn ns y ∧ kd ns y ≠ k := by
  obtain ⟨x, hx, hm⟩ := (h.iff y).1 hy
  have := mem_in hc.fine hk _ x (Nat.le_refl _) (h.lin x hx) y hm
  exact ⟨this.1, this.2.2⟩
theorem Coll.up {l ms : List Int} (h : Coll ns k l ms) (more : List Nd) : Coll (ns ++ more) k l ms :=
  ⟨fun x hx => (h.lin x hx).up more, h.nd, fun y => by
    rw [h.iff]
    constructor
    · rintro ⟨x, hx, hm⟩
      exact ⟨x, hx, by rw [mem_up hc.fine hk more _ x (Nat.le_refl _) (h.lin x hx)]; exact hm⟩
    · rintro ⟨x, hx, hm⟩
      exact ⟨x, hx, by rw [mem_up hc.fine hk more _ x (Nat.le_refl _) (h.lin x hx)] at hm; exact hm⟩⟩
theorem Coll.few {l ms : List Int} (h : Coll ns k l ms) : ms.length ≤ memN ns k l := by
  have : memN ns k l = (l.flatMap (mem ns k)).length := by unfold memN; rw [List.length_flatMap]
  rw [this]
  exact nodup_room (n := 0) h.nd (fun y hy => by
    obtain ⟨x, hx, hm⟩ := (h.iff y).1 hy
    exact List.mem_flatMap.2 ⟨x, hx, hm⟩)
/-- One that takes all. -/
theorem Coll.top {l ms : List Int} (h : Coll ns k l ms) {y : Int} (hy : y ∈ ms) (ht : topB ns k y = true) : JoinR ns k l y := by
  obtain ⟨x, hx, hm⟩ := (h.iff y).1 hy
  have hyi := (h.inn hc hk hy).1
  refine join_of_top hc hk hyi ht ⟨x, hx, ?_⟩
  by_cases e : kd ns x = k
  · have := ((hc.join k hk x (h.lin x hx) e).2.2.1 y hm).1
    rw [this] at ht; cases ht
  · rw [mem_leaf e, List.mem_singleton] at hm
    rw [← hm]; exact ht
theorem Coll.noTop {l ms : List Int} (h : Coll ns k l ms) (hn : ∀ y ∈ ms, topB ns k y = false) : ∀ x ∈ l, topB ns k x = false := fun x hx => by
  cases q : topB ns k x with
  | false => rfl
  | true =>
    have hkx := topB_kind q
    have : x ∈ ms := (h.iff x).2 ⟨x, hx, by rw [mem_leaf (by omega)]; simp⟩
    rw [hn x this] at q; cases q
/-- By a list of those that are neither, and a Bytes. -/
theorem Coll.made {l ms sl : List Int} (h : Coll ns k l ms) (hn : ∀ y ∈ ms, topB ns k y = false) {r : Int} (hr : IsList ns k sl r)
    (hsl : ∀ y, kd ns y ≠ 2 → (y ∈ sl ↔ y ∈ ms ∧ otherB ns k y = true))
    (hby : (∃ b, b ∈ sl ∧ kd ns b = 2 ∧ (∃ y ∈ ms, kd ns y = 2) ∧ BytesOf ns k ms (ndAt ns b.toNat).set ∧ ∀ c ∈ sl, kd ns c = 2 → c = b) ∨ ((∀ y ∈ ms, kd ns y ≠ 2) ∧ ∀ c ∈ sl, kd ns c ≠ 2)) : JoinR ns k l r := by
  refine join_of_list hc hk h.lin hr.inn hr.top (h.noTop hc hk hn) (fun y h2 hu => ?_) ?_ (fun b hb => ?_)
  · rw [hr.mems, hsl y h2, ← h.iff]
    constructor
    · rintro ⟨q, _⟩; exact q
    · intro q; exact ⟨q, by unfold otherB; rw [decide_eq_false h2, hu]; rfl⟩
  · rw [hr.mems]
    constructor
    · rintro ⟨y, hy, h2⟩
      rcases hby with ⟨b, _, _, ⟨z, hz, z2⟩, _⟩ | ⟨_, q⟩
      · obtain ⟨x, hx, hm⟩ := (h.iff z).1 hz
        exact ⟨x, hx, z, hm, z2⟩
      · exact absurd h2 (q y hy)
    · rintro ⟨x, hx, y, hm, h2⟩
      rcases hby with ⟨b, b1, b2, _⟩ | ⟨q, _⟩
      · exact ⟨b, b1, b2⟩
      · exact absurd h2 (q y ((h.iff y).2 ⟨x, hx, hm⟩))
  · rw [hr.mems]
    constructor
    · rintro ⟨y, hy, h2, h3⟩
      rcases hby with ⟨c, b1, b2, _, hU, honly⟩ | ⟨_, q⟩
      · rw [honly y hy h2] at h3
        obtain ⟨z, hz, z2, z3⟩ := (hU.2 b hb).1 h3
        obtain ⟨x, hx, hm⟩ := (h.iff z).1 hz
        exact ⟨x, hx, z, hm, z2, z3⟩
      · exact absurd h2 (q y hy)
    · rintro ⟨x, hx, z, hm, z2, z3⟩
      have hz := (h.iff z).2 ⟨x, hx, hm⟩
      rcases hby with ⟨c, b1, b2, _, hU, honly⟩ | ⟨q, _⟩
      · exact ⟨c, b1, b2, (hU.2 b hb).2 ⟨z, hz, z2, z3⟩⟩
      · exact absurd z2 (q z hz)
end

end Go.Proofs.YthifbaacmohmnaaGreat
