/- norm.Build. -/
import Derived.Test.YtcghclikkeajfaaGreatMG
import Derived.Test.YtcghclikkeajfaaGreatMl
import Derived.Test.YtcghclikkeajfaaGreatMx
import Derived.Test.YtcghclikkeajfaaGreatMr
import Derived.Test.YtcghclikkeajfaaGreatMs
import Derived.Test.YtcghclikkeajfaaGreatMh
namespace Go.Proofs.YtcghclikkeajfaaGreat
open Go.RowKit Go.Shelf
set_option linter.unusedSimpArgs false
set_option linter.unusedVariables false

theorem slim_all : ∀ (k m : Nat) (t : Tr), Tr.Lv k t → slimS k t → slimS m t
  | 0, _, _, h, _ => h.elim
  | _ + 1, 0, _, _, _ => trivial
  | k + 1, m + 1, t, h, hs => ⟨hs.1, fun p hp => slim_all k m p (h p hp) (hs.2 p hp)⟩
/-- What is known of a formed pattern that comes in, at 40 levels. -/
theorem formed_40 {w : World} {k : Nat} {t : Tr} (h : Tr.Ins w k t) (hs : slimS k t) (hf : isFormed k t = true) : Tr.Ins w 40 t ∧ slimS 40 t ∧ massS 40 t ≤ 4000000 ∧ formedS 40 t = true ∧ Tr.Lv 40 t ∧ isFormed 40 t = true := by
  have hlv := h.1.lv
  have hT : FormedT t := ⟨k, hlv, hf⟩
  obtain ⟨l40, f40⟩ := hT.lv40
  have h40 := deep_in k 40 t h.1 (isFormed_deep hf)
  have f40' := f40
  unfold isFormed at f40'
  rw [Bool.and_eq_true, Bool.and_eq_true] at f40'
  have hsz : sizeS 40 t ≤ 1000 := by
    have := of_decide_eq_true f40'.2.2
    omega
  have hm := mass_size 40 t l40 hsz
  exact ⟨⟨h40, sol_any k 40 t h40 h.2 h.1⟩, slim_all k 40 t hlv hs, by omega, f40'.2.1, l40, f40⟩

section
variable {AA : World → Value → List Nd → (Nat → Prop) → Prop}
set_option maxRecDepth 100000 in
set_option maxHeartbeats 8000000 in
theorem buildNo (S : ArenaMap AA) {w : World} {a : Value} {ns : List Nd} {F : Nat → Prop} (k : Nat) (t : Tr) (h : AA w a ns F) (ht : Tr.Ins w k t) (hf : isFormed k t = false) : Calls Tryz.prog 9 #[a, .agg t.cs.toArray, .nilFunc] w fun e w' => e = .returned (.tuple #[.int .i64 0, .int .i64 1]) ∧ OffF F w w' := by
  have hA : At (w.alloc (Obj.cells t.cs.toArray 27)) w.heap.size 27 t.cs.toArray := At.new _ _ _
  have hB : Below w.heap.size w (w.alloc (Obj.cells t.cs.toArray 27)) := (Below.refl _ _).alloc (Nat.le_refl _) _
  have HI := Lib.hid (ht.1.next hB)
  have HB := Lib.hid hB
  have HF := Lib.hid hf
  obtain ⟨gp, rfl⟩ := S.ptr h
  clear h ht hB hf
  go_enter Tryz.func9, Tryz.ntmps9
  go_wp2_with (first | (refine wpList_load_row_want (by rfl) 27 _ rfl w.heap.size rfl 27 t.cs.toArray (0, 0) _ hA Tryz.underlying27 rfl (by kernel_rfl) ?_) | fail)
  refine (treeFormed k t _ HI.out).mono ?_
  rintro e w1 ⟨rfl, hb1⟩
  rw [HF.out]
  have HB1 := Lib.hid (HB.out.trans (hb1.mono HB.out.size))
  clear hb1
  go_wp2_with fail
  go_ret2
  exact ⟨rfl, OffF.of HB1.out⟩

set_option maxRecDepth 100000 in
set_option maxHeartbeats 16000000 in
theorem buildLooks (S : ArenaMap AA) {w : World} {a : Value} {F : Nat → Prop} (k : Nat) (t : Tr) (h : AA w a [] F) (ht : Tr.Ins w k t) (hs : slimS k t) (hf : isFormed k t = true) (hl : lookB k t = true) (hz : sizeS k t ≤ 150) : Calls Tryz.prog 9 #[a, .agg t.cs.toArray, .nilFunc] w fun e w' => e = .returned (.tuple #[.int .i64 0, .int .i64 10]) ∧ OffF F w w' := by
  have hA : At (w.alloc (Obj.cells t.cs.toArray 27)) w.heap.size 27 t.cs.toArray := At.new _ _ _
  have hB : Below w.heap.size w (w.alloc (Obj.cells t.cs.toArray 27)) := (Below.refl _ _).alloc (Nat.le_refl _) _
  have HI := Lib.hid (ht.next hB)
  have HB := Lib.hid hB
  have HF := Lib.hid hf
  have HS := Lib.hid hs
  have HL := Lib.hid hl
  have HZ := Lib.hid hz
  obtain ⟨gp, rfl⟩ := S.ptr h
  have HA := Lib.hid h
  clear h ht hB hf hs hl hz
  go_enter Tryz.func9, Tryz.ntmps9
  go_wp2_with (first | (refine wpList_load_row_want (by rfl) 27 _ rfl w.heap.size rfl 27 t.cs.toArray (0, 0) _ hA Tryz.underlying27 rfl (by kernel_rfl) ?_) | fail)
  refine (treeFormed k t _ HI.out.1).mono ?_
  rintro e w1 ⟨rfl, hb1⟩
  rw [HF.out]
  have HI1 := Lib.hid (HI.out.next hb1)
  have HB1 := Lib.hid (HB.out.trans (hb1.mono HB.out.size))
  have HA1 := Lib.hid (At.below hA hb1 (At.lt hA))
  have H40 := Lib.hid (formed_40 HI1.out HS.out HF.out)
  clear hb1 hA
  go_wp2_with (first | (refine wpList_load_row rfl 27 _ rfl w.heap.size rfl 27 t.cs.toArray (0, 0) _ HA1.out Tryz.underlying27 rfl (by kernel_rfl) ?_) | fail)
  refine (tClone t w1 H40.out.1 H40.out.2.1 H40.out.2.2.1).mono ?_
  rintro e w2 ⟨t2, rfl, hin, hfr, hst, hb2⟩
  have HB2 := Lib.hid (HB1.out.trans (hb2.mono HB1.out.size))
  have HA2 := Lib.hid (At.below HA1.out hb2 (At.lt HA1.out))
  have hone2 := Tr.one t2
  have HR : Hid (Tr.Ins w2 40 t2 ∧ Tr.From w1.heap.size 40 t2 ∧ t2.strip 40 = t.strip 40) := Lib.hid ⟨hin, hfr, hst⟩
  have HSz : Hid (w.heap.size < w1.heap.size) := Lib.hid (At.lt HA1.out)
  clear hin hfr hst hb2
  obtain ⟨w3, hw3⟩ : ∃ w3, w3 = w2.setRow w.heap.size t2.cs.toArray := ⟨_, rfl⟩
  have ho3 : Only w.heap.size w2 w3 := by rw [hw3]; exact Only.row _ _ _
  have HR3 := Lib.hid (HR.out.1.only HR.out.2.1 ho3 HSz.out)
  have HA3 : Hid (At w3 w.heap.size 27 t2.cs.toArray) := Lib.hid (by rw [hw3]; exact HA2.out.row _)
  have HB3 : Hid (Below w.heap.size w w3) := Lib.hid (HB2.out.trans (ho3.below (Nat.le_refl _)))
  have HF2 : Hid (formedS 40 t2 = true) := Lib.hid (by rw [formedS_congr 40 t2 t HR.out.2.2]; exact H40.out.2.2.2.1)
  have HL2 : Hid (lookB 40 t2 = true) := Lib.hid (by
    rw [lookB_congr 40 t2 t HR.out.2.2, any_lv lookB lookB_lv H40.out.2.2.2.2.1 HI1.out.1.lv]; exact HL.out)
  have HW3 := Lib.hid hw3
  clear ho3 hw3
  go_wp2_with (first
    | (with_reducible show wpList _ _ _ ({ dst := none, op := .store _ _ _, type := _, pos := _, after := _, guard := _ } :: _) _ _
       refine wpList_store_row rfl 27 _ _ rfl w.heap.size t2.cs.toArray rfl rfl 27 t.cs.toArray HA2.out (by kernel_rfl) rfl hone2 ?_
       rw [← HW3.out])
    | (refine wpList_load_row rfl 27 _ rfl w.heap.size rfl 27 t2.cs.toArray (0, 0) _ HA3.out Tryz.underlying27 rfl (by kernel_rfl) ?_)
    | fail)
  refine (nLooks 40 t2 w3 HR3.out.1 HF2.out).mono ?_
  rintro e w4 ⟨v, rfl, hv, hb4⟩
  rw [HL2.out] at hv ⊢
  have HB4 := Lib.hid (HB3.out.trans (hb4.mono HB3.out.size))
  clear hb4 hv
  go_wp2_with fail
  go_ret2
  exact ⟨rfl, OffF.of HB4.out⟩

set_option maxRecDepth 100000 in
set_option maxHeartbeats 16000000 in
theorem buildOk (S : ArenaMap AA) {w : World} {a : Value} {F : Nat → Prop} (k : Nat) (t : Tr) (h : AA w a [] F) (ht : Tr.Ins w k t) (hs : slimS k t) (hf : isFormed k t = true) (hl : lookB k t = false) (hz : sizeS k t ≤ 150) : Calls Tryz.prog 9 #[a, .agg t.cs.toArray, .nilFunc] w fun e w' => ∃ (id : Int) (ns : List Nd) (F' : Nat → Prop), e = .returned (.tuple #[.int .i64 id, .int .i64 0]) ∧ AA w' a ns F' ∧ (∀ b, F' b → F b ∨ w.heap.size ≤ b) ∧ OffF F w w' ∧ isIn ns id ∧ ∀ l : List Nat, (∀ b ∈ l, b < 256) → l.length ≤ 6 → ∀ i j, i ≤ l.length → j ≤ l.length → nodeT l (List.replicate (l.length + 1) 0) ns id i j = spansS l k t i j := by
  have hA : At (w.alloc (Obj.cells t.cs.toArray 27)) w.heap.size 27 t.cs.toArray := At.new _ _ _
  have hB : Below w.heap.size w (w.alloc (Obj.cells t.cs.toArray 27)) := (Below.refl _ _).alloc (Nat.le_refl _) _
  have HI := Lib.hid (ht.next hB)
  have HB := Lib.hid hB
  have HF := Lib.hid hf
  have HS := Lib.hid hs
  have HL := Lib.hid hl
  have HZ := Lib.hid hz
  obtain ⟨gp, rfl⟩ := S.ptr h
  have HA := Lib.hid h
  clear h ht hB hf hs hl hz
  go_enter Tryz.func9, Tryz.ntmps9
  go_wp2_with (first | (refine wpList_load_row_want (by rfl) 27 _ rfl w.heap.size rfl 27 t.cs.toArray (0, 0) _ hA Tryz.underlying27 rfl (by kernel_rfl) ?_) | fail)
  refine (treeFormed k t _ HI.out.1).mono ?_
  rintro e w1 ⟨rfl, hb1⟩
  rw [HF.out]
  have HI1 := Lib.hid (HI.out.next hb1)
  have HB1 := Lib.hid (HB.out.trans (hb1.mono HB.out.size))
  have HA1 := Lib.hid (At.below hA hb1 (At.lt hA))
  have H40 := Lib.hid (formed_40 HI1.out HS.out HF.out)
  clear hb1 hA
  go_wp2_with (first | (refine wpList_load_row rfl 27 _ rfl w.heap.size rfl 27 t.cs.toArray (0, 0) _ HA1.out Tryz.underlying27 rfl (by kernel_rfl) ?_) | fail)
  refine (tClone t w1 H40.out.1 H40.out.2.1 H40.out.2.2.1).mono ?_
  rintro e w2 ⟨t2, rfl, hin, hfr, hst, hb2⟩
  have HB2 := Lib.hid (HB1.out.trans (hb2.mono HB1.out.size))
  have HA2 := Lib.hid (At.below HA1.out hb2 (At.lt HA1.out))
  have hone2 := Tr.one t2
  have HR : Hid (Tr.Ins w2 40 t2 ∧ Tr.From w1.heap.size 40 t2 ∧ t2.strip 40 = t.strip 40) := Lib.hid ⟨hin, hfr, hst⟩
  have HSz : Hid (w.heap.size < w1.heap.size) := Lib.hid (At.lt HA1.out)
  have HBs : Hid (w1.heap.size ≤ w2.heap.size) := Lib.hid hb2.size
  clear hin hfr hst hb2
  obtain ⟨w3, hw3⟩ : ∃ w3, w3 = w2.setRow w.heap.size t2.cs.toArray := ⟨_, rfl⟩
  have ho3 : Only w.heap.size w2 w3 := by rw [hw3]; exact Only.row _ _ _
  have HR3 := Lib.hid (HR.out.1.only HR.out.2.1 ho3 HSz.out)
  have HA3 : Hid (At w3 w.heap.size 27 t2.cs.toArray) := Lib.hid (by rw [hw3]; exact HA2.out.row _)
  have HB3 : Hid (Below w.heap.size w w3) := Lib.hid (HB2.out.trans (ho3.below (Nat.le_refl _)))
  have HF2 : Hid (formedS 40 t2 = true) := Lib.hid (by rw [formedS_congr 40 t2 t HR.out.2.2]; exact H40.out.2.2.2.1)
  have HL2 : Hid (lookB 40 t2 = false) := Lib.hid (by
    rw [lookB_congr 40 t2 t HR.out.2.2, any_lv lookB lookB_lv H40.out.2.2.2.2.1 HI1.out.1.lv]; exact HL.out)
  have HW3 := Lib.hid hw3
  clear ho3 hw3
  go_wp2_with (first
    | (with_reducible show wpList _ _ _ ({ dst := none, op := .store _ _ _, type := _, pos := _, after := _, guard := _ } :: _) _ _
       refine wpList_store_row rfl 27 _ _ rfl w.heap.size t2.cs.toArray rfl rfl 27 t.cs.toArray HA2.out (by kernel_rfl) rfl hone2 ?_
       rw [← HW3.out])
    | (refine wpList_load_row rfl 27 _ rfl w.heap.size rfl 27 t2.cs.toArray (0, 0) _ HA3.out Tryz.underlying27 rfl (by kernel_rfl) ?_)
    | fail)
  refine (nLooks 40 t2 w3 HR3.out.1 HF2.out).mono ?_
  rintro e w4 ⟨v, rfl, hv, hb4⟩
  rw [HL2.out] at hv ⊢
  obtain rfl := hv rfl
  have HB4 := Lib.hid (HB3.out.trans (hb4.mono HB3.out.size))
  have HR4 := Lib.hid (HR3.out.next hb4)
  have HA4 := Lib.hid (At.below HA3.out hb4 (At.lt HA3.out))
  have HS4 : Hid (w1.heap.size ≤ w4.heap.size) := Lib.hid (by
    have h1 := hb4.size
    rw [HW3.out, setRow_size] at h1
    have h2 : w1.heap.size ≤ w2.heap.size := HBs.out
    omega)
  clear hb4 hv
  go_wp2_with (first
    | (refine wpList_load_row rfl 27 _ rfl w.heap.size rfl 27 t2.cs.toArray (0, 0) _ (by first | exact HA4.out | exact (HA4.out.alloc _)) Tryz.underlying27 rfl (by kernel_rfl) ?_)
    | fail)
  have HNd : Hid (Calls Tryz.prog 25 #[.pointer (some ⟨w4.heap.size, 0, none⟩), .agg t2.cs.toArray] (w4.alloc (.cells #[.pointer (some ⟨gp, 0, none⟩), .slice none 0 0] 62)) (Grows AA (w4.alloc (.cells #[.pointer (some ⟨gp, 0, none⟩), .slice none 0 0] 62)) (.pointer (some ⟨gp, 0, none⟩)) [] F (NodeR [] 40 t2))) := Lib.hid (by
    have hal : Below w4.heap.size w4 (w4.alloc (.cells #[.pointer (some ⟨gp, 0, none⟩), .slice none 0 0] 62)) := (Below.refl _ _).alloc (Nat.le_refl _) _
    have hFl := S.low HA.out
    have hsz2 : sizeS 40 t2 ≤ 150 := by
      rw [sizeS_congr 40 t2 t HR.out.2.2, any_lv sizeS sizeS_lv H40.out.2.2.2.2.1 HI1.out.1.lv]; exact HZ.out
    have hw14 := HB4.out.size
    refine bNode S (bTimes S) 40 t2 w4.heap.size (S.next HA.out (HB4.out.trans (hal.mono hw14))) canon_nil (At.new _ _ _) (fun z => by have := hFl _ z; omega) (fun w' ho => ?_) HF2.out HL2.out hsz2 ?_
    · refine Tr.In.kept (base := w1.heap.size) ho.size (fun b hb hlt => ho.block b hlt (fun z => ?_)) 40 t2 HR.out.2.1 (HR4.out.next hal).1
      have := hFl b z
      have := HSz.out
      omega
    · have h1 := sz_int 40 t2
      have h2 := cst_mono (k := 40) (show sz 40 t2 ≤ 150 by omega)
      have h3 : cst 150 40 = 13800 := rfl
      rw [List.length_nil]
      omega)
  refine HNd.out.mono ?_
  rintro e w6 ⟨r, more, F', rfl, g1, g2, g3, g4, g5, g6⟩
  have hr0 : ¬ r < 0 := by unfold isIn at g5; omega
  have hr0d := decide_eq_false hr0
  have HG : Hid (∃ (id : Int) (ns : List Nd) (F' : Nat → Prop), (Ending.returned (.tuple #[.int .i64 r, .int .i64 0])) = .returned (.tuple #[.int .i64 id, .int .i64 0]) ∧ AA w6 (.pointer (some ⟨gp, 0, none⟩)) ns F' ∧ (∀ b, F' b → F b ∨ w.heap.size ≤ b) ∧ OffF F w w6 ∧ isIn ns id ∧ ∀ l : List Nat, (∀ b ∈ l, b < 256) → l.length ≤ 6 → ∀ i j, i ≤ l.length → j ≤ l.length → nodeT l (List.replicate (l.length + 1) 0) ns id i j = spansS l k t i j) := Lib.hid (by
    have hal : Below w4.heap.size w4 (w4.alloc (.cells #[.pointer (some ⟨gp, 0, none⟩), .slice none 0 0] 62)) := (Below.refl _ _).alloc (Nat.le_refl _) _
    have hB5 := HB4.out.trans (hal.mono HB4.out.size)
    refine ⟨r, [] ++ more, F', rfl, g1, fun b z => ?_, (OffF.of hB5).off g3 (fun b z => Or.inl z), g5, fun l hb hl i j hi hj => ?_⟩
    · rcases g2 b z with z | z
      · exact Or.inl z
      · exact Or.inr (Nat.le_trans hB5.size z)
    · have h1 := g6.2.1 l hb hl i j (by omega) (by omega)
      have e : spansS l 40 t2 = spansS l k t := by
        rw [spans_congr l 40 t2 t HR.out.2.2]
        exact any_lv (spansS l) (spansS_lv l) H40.out.2.2.2.2.1 HI1.out.1.lv
      rw [← e]
      exact h1)
  clear g1 g2 g3 g4 g5 g6
  go_wp2_with fail
  go_ret2
  exact HG.out
theorem buildSpec (S : ArenaMap AA) : BuildSpec AA where
  no := fun k t h ht hs hf => buildNo S k t h ht hf
  looks := fun k t h ht hs hf hl hz => buildLooks S k t h ht hs hf hl hz
  ok := fun k t h ht hs hf hl hz => buildOk S k t h ht hs hf hl hz
end
theorem buildIs : BuildSpec AA := buildSpec arenaMap

end Go.Proofs.YtcghclikkeajfaaGreat
