/- Joined: BuildN, BuildSz. -/
import Derived.Test.YtcghclikkeajfaaGreatBuildUp
import Derived.Test.YtcghclikkeajfaaGreatMp
import Derived.Test.YtcghclikkeajfaaGreatRefLooks
import Derived.Test.YtcghclikkeajfaaGreatMd
import Derived.Test.YtcghclikkeajfaaGreatMa
/- norm's builder: nodes, by what node does; what is said of node. -/
namespace Go.Proofs.YtcghclikkeajfaaGreat
open Go.RowKit Go.Shelf
set_option linter.unusedSimpArgs false
set_option linter.unusedVariables false

/-- How many nodes come, at most. -/
def cst (S k : Nat) : Nat := 12 * S + 2 * (S * k)
theorem cst_add (a b k : Nat) : cst (a + b) k = cst a k + cst b k := by unfold cst; rw [Nat.add_mul]; omega
theorem cst_mono {a b k : Nat} (h : a ≤ b) : cst a k ≤ cst b k := by
  obtain ⟨c, rfl⟩ := Nat.exists_eq_add_of_le h
  rw [cst_add]; omega
theorem cst_succ (S k : Nat) : cst S (k + 1) = cst S k + 2 * S := by unfold cst; rw [Nat.mul_succ]; omega
def sz (k : Nat) (t : Tr) : Nat := (sizeS k t).toNat
/-- A pattern that stays as it lies, whatever an arena of these blocks does. -/
def Safe (F : Nat → Prop) (w : World) (k : Nat) (t : Tr) : Prop := ∀ w', OffF F w w' → Tr.In w' k t
def SafeP (F : Nat → Prop) (w : World) (k : Nat) (A : Option Addr) (ps : List Tr) : Prop := ∀ w', OffF F w w' → (0 < ps.length → ∃ b off, A = some ⟨b, off, none⟩ ∧ b < w'.heap.size ∧ ∀ j (h : j < ps.length), w'.rangeAt b (off + j * 9) ps[j].cs) ∧ ∀ j (h : j < ps.length), Tr.In w' k ps[j]
theorem OffF.refl (F : Nat → Prop) (w : World) : OffF F w w := ⟨rfl, rfl, rfl, Nat.le_refl _, fun _ _ _ => rfl⟩
theorem Safe.step {F F' : Nat → Prop} {w w1 : World} {k : Nat} {t : Tr} (h : Safe F w k t) (ho : OffF F w w1) (hl : ∀ b, F' b → F b ∨ w.heap.size ≤ b) : Safe F' w1 k t := fun w' q => h w' (ho.off q hl)
theorem SafeP.step {F F' : Nat → Prop} {w w1 : World} {k : Nat} {A : Option Addr} {ps : List Tr} (h : SafeP F w k A ps) (ho : OffF F w w1) (hl : ∀ b, F' b → F b ∨ w.heap.size ≤ b) : SafeP F' w1 k A ps := fun w' q => h w' (ho.off q hl)
theorem Safe.parts {F : Nat → Prop} {w : World} {k : Nat} {t : Tr} (h : Safe F w (k + 1) t) : SafeP F w k t.addr t.parts := fun w' q => by
  have hi := h w' q
  have hn := hi.2.1.1
  exact ⟨fun h0 => by
    obtain ⟨b, off, ha, hb, hr⟩ := hi.2.2.1 (by rw [hn]; exact h0)
    exact ⟨b, off, ha, hb, fun j hj => hr j hj⟩, hi.2.2.2⟩
theorem SafeP.part {F : Nat → Prop} {w : World} {k : Nat} {A : Option Addr} {ps : List Tr} (h : SafeP F w k A ps) (j : Nat) (hj : j < ps.length) : Safe F w k ps[j] := fun w' q => (h w' q).2 j hj
section
variable {AA : World → Value → List Nd → (Nat → Prop) → Prop}
def NodeR (ns : List Nd) (k : Nat) (t : Tr) (more : List Nd) (r : Int) : Prop := Wide (ns ++ more) (sz k t) r ∧ TabR (ns ++ more) r (fun l => spansS l k t) ∧ more.length ≤ cst (sz k t) k
def NodeIs (AA : World → Value → List Nd → (Nat → Prop) → Prop) (k : Nat) : Prop := ∀ (t : Tr) {w : World} {a : Value} {ns : List Nd} {F : Nat → Prop} (g : Nat), AA w a ns F → Canon ns → BAt w g a → ¬ F g → Safe F w k t → formedS k t = true → lookB k t = false → sizeS k t ≤ 150 → ns.length + cst (sz k t) k ≤ 14000 →
  Calls Tryz.prog 25 #[.pointer (some ⟨g, 0, none⟩), .agg t.cs.toArray] w (Grows AA w a ns F (NodeR ns k t))
def arrI (xs : List Int) (n : Nat) : Array Value := ((xs ++ List.replicate (n - xs.length) 0).map (Value.int .i64)).toArray
theorem arrI_none (n : Nat) : madeCells #[.int .i64 0] n = arrI [] n := by
  unfold madeCells arrI
  apply Array.ext
  · simp
  · intro i h1 h2
    simp [Nat.mod_one]
theorem arrI_set {xs : List Int} {n : Nat} (x : Int) (h : xs.length < n) : (arrI xs n).setIfInBounds xs.length (.int .i64 x) = arrI (xs ++ [x]) n := by
  unfold arrI
  rw [List.setIfInBounds_toArray]
  congr 1
  obtain ⟨m, hm⟩ : ∃ m, n - xs.length = m + 1 := ⟨n - xs.length - 1, by omega⟩
  rw [List.length_append, List.length_singleton, hm, show n - (xs.length + 1) = m by omega, List.replicate_succ, List.map_append, List.map_cons, List.set_append, if_neg (by simp)]
  simp
theorem arrI_get {xs : List Int} {n : Nat} (h : xs.length < n) : (arrI xs n)[xs.length]? = some (.int .i64 0) := by
  unfold arrI
  obtain ⟨m, hm⟩ : ∃ m, n - xs.length = m + 1 := ⟨n - xs.length - 1, by omega⟩
  rw [hm, List.replicate_succ]
  simp
theorem arrI_row {w : World} {g : Nat} {xs : List Int} (h : At w g 3 (arrI xs xs.length)) (hm : xs.length ≤ 1000000) : IdRow w g (.slice (some ⟨g, 0, none⟩) xs.length xs.length) xs := by
  unfold arrI at h
  rw [Nat.sub_self, List.replicate_zero, List.append_nil] at h
  refine ⟨by unfold idL; simp, Or.inr ⟨g, xs.length, _, rfl, Nat.le_refl _, h, Nat.le_refl _, by unfold maxLen; omega, by simp, ?_⟩⟩
  unfold idL
  rw [Nat.mul_one, List.take_of_length_le (by simp)]
theorem make_int (n : Nat) (hn : n ≤ 100000) (W : World) : (Instr.makeSlice 58 (.int .i64 (n : Int)) (.int .i64 (n : Int))).run Tryz.prog W = .ok (.slice (some ⟨W.heap.size, 0, none⟩) n n) (W.alloc (.cells (arrI [] n) 3)) := by
  rw [← arrI_none]
  exact run_make_row' (P := Tryz.prog) 58 3 (.int .i64 0) 8 Tryz.underlying58 info_intR rfl .i64 .i64 n (by omega) (by omega) W
/-- Between two rounds of nodes. -/
structure NJ (AA : World → Value → List Nd → (Nat → Prop) → Prop) (w : World) (a : Value) (ns : List Nd) (F : Nat → Prop) (k : Nat) (ps : List Tr) (j : Nat) (W : World) (xs : List Int) (more : List Nd) (F' : Nat → Prop) : Prop where
  ab : AA W a (ns ++ more) F'
  low : ∀ b, F' b → F b ∨ w.heap.size + 1 ≤ b
  off : OffF F w W
  canon : Canon (ns ++ more)
  len : xs.length = j
  size : w.heap.size + 1 ≤ W.heap.size
  row : At W w.heap.size 3 (arrI xs ps.length)
  all : AllR (ns ++ more) k xs (ps.take j)
  wide : ∀ i (h1 : i < xs.length) (h2 : i < ps.length), Wide (ns ++ more) (sz k ps[i]) xs[i]
  few : more.length ≤ cst ((ps.take j).map (sz k)).sum k

set_option maxRecDepth 100000 in
set_option maxHeartbeats 16000000 in
theorem bNodes (S : ArenaMap AA) (k : Nat) (IH : NodeIs AA k) (A : Option Addr) (c : Nat) (ps : List Tr) {w : World} {a : Value} {ns : List Nd} {F : Nat → Prop} (g : Nat) (h : AA w a ns F) (hc : Canon ns) (hb : BAt w g a) (hgF : ¬ F g) (hs : SafeP F w k A ps) (hf : ∀ p ∈ ps, formedS k p = true) (hl : ∀ p ∈ ps, lookB k p = false) (hz : ∀ p ∈ ps, sizeS k p ≤ 150) (hn : ps.length ≤ 1000) (hroom : ns.length + cst ((ps.map (sz k)).sum) k ≤ 14000) :
    Calls Tryz.prog 55 #[.pointer (some ⟨g, 0, none⟩), .slice A ps.length c] w fun e w' => ∃ (v : Value) (xs : List Int) (more : List Nd) (F' : Nat → Prop), e = .returned v ∧ IdRow w' w.heap.size v xs ∧ (∀ b, v.ownBlock = some b → ¬ F' b) ∧ AA w' a (ns ++ more) F' ∧ (∀ b, F' b → F b ∨ w.heap.size ≤ b) ∧ OffF F w w' ∧ Canon (ns ++ more) ∧ AllR (ns ++ more) k xs ps ∧ (∀ i (h1 : i < xs.length) (h2 : i < ps.length), Wide (ns ++ more) (sz k ps[i]) xs[i]) ∧ more.length ≤ cst ((ps.map (sz k)).sum) k := by
  have HA := Lib.hid h
  have HC := Lib.hid hc
  have HBa := Lib.hid hb
  have HgF := Lib.hid hgF
  have HS := Lib.hid hs
  have HFm := Lib.hid hf
  have HLk := Lib.hid hl
  have HZz := Lib.hid hz
  have HNn := Lib.hid hn
  have HRoom := Lib.hid hroom
  have HLw := Lib.hid (At.lt hb)
  have HIH := Lib.hid IH
  have hmk := make_int ps.length (by omega) w
  have hJ0 : NJ AA w a ns F k ps 0 (w.alloc (.cells (arrI [] ps.length) 3)) [] [] F :=
    ⟨by rw [List.append_nil]; exact S.next h ((Below.refl _ _).alloc (Nat.le_refl _) _), fun b q => Or.inl q, OffF.of ((Below.refl _ _).alloc (Nat.le_refl _) _), by rw [List.append_nil]; exact hc, rfl, by rw [World.size_alloc]; exact Nat.le_refl _, At.new _ _ _, by rw [List.take_zero]; exact AllR.nil, fun i h1 => absurd h1 (Nat.not_lt_zero _), Nat.zero_le _⟩
  have HJ0 := Lib.hid hJ0
  clear h hc hb hgF hs hf hl hz hroom IH hJ0
  go_enter Tryz.func55, Tryz.ntmps55
  go_wp2_with fail
  go_loopw [13] (fun i wr => ∃ (j : Nat) (xs : List Int) (more : List Nd) (F' : Nat → Prop), j ≤ ps.length ∧ i = .int .i64 j ∧ Hid (NJ AA w a ns F k ps j wr xs more F')) (fun i _ => ps.length - (intOf i).toNat)
  case atStart => exact ⟨0, [], [], F, Nat.zero_le _, rfl, HJ0⟩
  case round =>
    clear hmk
    obtain ⟨j, xs, more, F', hj, rfl, HJ⟩ := hrel
    by_cases hlt : j < ps.length
    · obtain ⟨b, off, ha, hb, hr⟩ := (HS.out wr HJ.out.off).1 (by omega)
      have HR := Lib.hid (hr j hlt)
      have hA2 := boxW_at wr ps[j]
      have HBx := Lib.hid (boxW_next wr ps[j])
      have hlow : ∀ b, F' b → F b ∨ w.heap.size ≤ b := fun b z => by
        rcases HJ.out.low b z with z | z
        · exact Or.inl z
        · exact Or.inr (by omega)
      have hBW : BAt wr g a := HBa.out.off HgF.out HJ.out.off
      have hgF' : ¬ F' g := fun z => by
        rcases HJ.out.low _ z with z | z
        · exact HgF.out z
        · have := HLw.out; omega
      have HSum : Hid (((ps.take (j + 1)).map (sz k)).sum = ((ps.take j).map (sz k)).sum + sz k ps[j]) := Lib.hid (sumN_take hlt)
      have HSle : Hid (((ps.take (j + 1)).map (sz k)).sum ≤ (ps.map (sz k)).sum) := Lib.hid (sumN_take_le _)
      have hmem := List.getElem_mem hlt
      have hcs : more.length + cst (sz k ps[j]) k ≤ cst ((ps.map (sz k)).sum) k := by
        have h1 := cst_mono (k := k) HSle.out
        rw [HSum.out, cst_add] at h1
        have := HJ.out.few
        omega
      have HNo := Lib.hid (HIH.out ps[j] g (S.next HJ.out.ab HBx.out) HJ.out.canon (HBx.out.block g (At.lt hBW) |>.trans hBW) hgF' ((HS.out.part j hlt).step (HJ.out.off.then HBx.out) hlow) (HFm.out _ hmem) (HLk.out _ hmem) (HZz.out _ hmem) (by have := HRoom.out; rw [List.length_append]; omega))
      have HgF' := Lib.hid hgF'
      have HLow := Lib.hid hlow
      have HCs := Lib.hid hcs
      clear hr hb hlow hBW hgF' hmem hcs
      rw [ha]
      clear ha
      have hjz : (0 : Int) ≤ (j : Int) := by omega
      have hjn : (j : Int) < (ps.length : Int) := by omega
      go_wp2_with (first
        | (refine wpList_load_mid rfl 27 _ rfl b (off + j * 9) rfl ps[j].cs _ HR.out Tryz.underlying27 rfl (by rw [Tr.cs_length]; kernel_rfl) ?_)
        | (refine wpList_store_row rfl 27 _ _ rfl wr.heap.size ps[j].cs.toArray rfl rfl 27 Tr.blank.cs.toArray (At.new _ _ _) (by kernel_rfl) rfl (Tr.one _) ?_; change Exit.then _ _ _ _ (boxW wr ps[j]))
        | (refine wpList_load_row rfl 27 _ rfl wr.heap.size rfl 27 ps[j].cs.toArray (0, 0) _ hA2 Tryz.underlying27 rfl (by kernel_rfl) ?_) | fail)
      refine HNo.out.mono ?_
      rintro e W6 ⟨x, more2, F2, rfl, k1, k2, k3, k4, k5, k6⟩
      have hoB : OffF F' wr W6 := (OffF.of HBx.out).off k3 (fun b z => Or.inl z)
      have hrow : At W6 w.heap.size 3 (arrI xs ps.length) := (hoB.block _ (At.lt HJ.out.row) (fun z => by
        rcases HJ.out.low _ z with z | z
        · have := S.low HA.out _ z; omega
        · omega)).trans HJ.out.row
      have hcj : W6.cell? ⟨w.heap.size, j, none⟩ = some (.int .i64 0) := by
        have h1 := hrow.cell j
        rw [h1]
        have h2 := arrI_get (xs := xs) (n := ps.length) (by rw [HJ.out.len]; exact hlt)
        rw [HJ.out.len] at h2
        exact h2
      have fj := hrow.free j
      have HN7 : Hid (NJ AA w a ns F k ps (j + 1) (W6.setCell ⟨w.heap.size, j, none⟩ (.int .i64 x)) (xs ++ [x]) (more ++ more2) F2) := Lib.hid (by
        have hnew : ¬ F' w.heap.size := fun z => by
          rcases HJ.out.low _ z with z | z
          · have := S.low HA.out _ z; omega
          · omega
        have hsz : wr.heap.size ≤ (boxW wr ps[j]).heap.size := HBx.out.size
        have hF2 : ¬ F2 w.heap.size := fun z => by
          rcases k2 _ z with z | z
          · exact hnew z
          · have := HJ.out.size; omega
        have hbnd : ∀ b, w.heap.size ≠ b → (W6.setCell ⟨w.heap.size, j, none⟩ (.int .i64 x)).heap[b]? = W6.heap[b]? := fun b hb => Below.heap_setCell W6 ⟨w.heap.size, j, none⟩ _ b (fun e => hb e.symm)
        have ho : OffF F w W6 := HJ.out.off.off hoB HLow.out
        have hxl := HJ.out.len
        refine ⟨S.keep (by rw [← List.append_assoc]; exact k1) (fun b z => hbnd b (fun e => hF2 (by rw [e]; exact z))), fun b z => ?_, ⟨ho.os, ho.tape, ho.output, by rw [World.size_setCell]; exact ho.size, fun b hb hn => ?_⟩, by rw [← List.append_assoc]; exact k4, by rw [List.length_append, hxl]; rfl, by rw [World.size_setCell]; exact Nat.le_trans HJ.out.size hoB.size, ?_, ?_, fun i h1 h2 => ?_, ?_⟩
        · rcases k2 b z with z | z
          · exact HJ.out.low b z
          · have := HJ.out.size; exact Or.inr (by omega)
        · rw [hbnd b (by omega)]
          exact ho.block b hb hn
        · have h1 := hrow.set j (.int .i64 x)
          have h2 := arrI_set (xs := xs) (n := ps.length) x (by rw [hxl]; exact hlt)
          rw [hxl] at h2
          rw [h2] at h1
          exact h1
        · rw [← List.append_assoc, List.take_succ_eq_append_getElem hlt]
          exact (HJ.out.all.up more2).snoc k5 k6.2.1
        · rw [← List.append_assoc]
          rw [List.length_append, List.length_singleton] at h1
          by_cases e : i < xs.length
          · rw [List.getElem_append_left e]
            exact (HJ.out.wide i e h2).up HJ.out.canon.fine more2 (HJ.out.all.2.1 _ (List.getElem_mem e))
          · have e1 : i = j := by omega
            subst e1
            rw [List.getElem_append_right (by omega)]
            simpa [hxl] using k6.1
        · rw [HSum.out, cst_add, List.length_append]
          have h1 := HJ.out.few
          have h2 := k6.2.2
          omega)
      clear k1 k2 k3 k4 k5 k6 hoB hrow
      go_wp2_with fail
      exact ⟨⟨j + 1, xs ++ [x], more ++ more2, F2, by omega, by go_num, HN7⟩, by simp [intOf] <;> omega⟩
    · obtain rfl : j = ps.length := by omega
      go_wp2_with fail
      go_ret
      have hl := HJ.out.len
      have hall := HJ.out.all
      have hfew := HJ.out.few
      rw [List.take_length] at hall hfew
      have hrw : IdRow wr w.heap.size (.slice (some ⟨w.heap.size, 0, none⟩) ps.length ps.length) xs := by
        have h1 := arrI_row (xs := xs) (by rw [hl]; exact HJ.out.row) (by omega)
        rw [hl] at h1
        exact h1
      refine ⟨_, xs, more, F', rfl, hrw, fun b e z => ?_, HJ.out.ab, fun b z => ?_, HJ.out.off, HJ.out.canon, hall, HJ.out.wide, hfew⟩
      · injection e with e
        subst e
        rcases HJ.out.low _ z with z | z
        · have := S.low HA.out _ z; simp at this
        · simp at z; omega
      · rcases HJ.out.low b z with z | z
        · exact Or.inl z
        · exact Or.inr (by omega)
end

end Go.Proofs.YtcghclikkeajfaaGreat

/- Build: how great the parts are. Mathematics; no program is named. -/
namespace Go.Proofs.YtcghclikkeajfaaGreat
open Go.RowKit
set_option linter.unusedSimpArgs false
set_option linter.unusedVariables false

theorem sz_int (k : Nat) (t : Tr) : (sz k t : Int) = sizeS k t := Int.toNat_of_nonneg (sizeS_ge k t)
theorem sumS_exact (k : Nat) (l : List Tr) (h : sumS (l.map (sizeS k)) ≤ 1000) : ((l.map (sz k)).sum : Int) = sumS (l.map (sizeS k)) := by
  have key : ∀ r : List Tr, sumS (r.map (sizeS k)).reverse ≤ 1000 → ((r.map (sz k)).sum : Int) = sumS (r.map (sizeS k)).reverse := fun r => by
    induction r with
    | nil => exact fun _ => rfl
    | cons a r ih =>
      intro h2
      have em : ((a :: r).map (sizeS k)).reverse = (r.map (sizeS k)).reverse ++ [sizeS k a] := by rw [List.map_cons, List.reverse_cons]
      rw [em, sumS_snoc] at h2 ⊢
      have hge : 0 ≤ sumS (r.map (sizeS k)).reverse := sumS_ge _ (fun x hx => by
        rw [List.mem_reverse, List.mem_map] at hx
        obtain ⟨p, _, rfl⟩ := hx
        exact sizeS_ge k p)
      have ha := sizeS_ge k a
      have hc : ¬ 1001 < sumS (r.map (sizeS k)).reverse + sizeS k a := fun q => by rw [cut1001_yes q] at h2; omega
      rw [cut1001_no hc] at h2 ⊢
      have h3 := ih (by omega)
      have h4 := sz_int k a
      rw [List.map_cons, List.sum_cons]
      omega
  have h5 : (l.reverse.map (sizeS k)).reverse = l.map (sizeS k) := by rw [List.map_reverse, List.reverse_reverse]
  have h6 : (l.reverse.map (sz k)).sum = (l.map (sz k)).sum := by rw [List.map_reverse, List.sum_reverse]
  have := key l.reverse (by rw [h5]; exact h)
  rw [h5, h6] at this
  exact this
theorem sumS_nonneg (k : Nat) (l : List Tr) : 0 ≤ sumS (l.map (sizeS k)) := sumS_ge _ (fun x hx => by
  rw [List.mem_map] at hx
  obtain ⟨p, _, rfl⟩ := hx
  exact sizeS_ge k p)
theorem sz_plain {k : Nat} {t : Tr} (h : sizeS (k + 1) t ≤ 150) (h7 : ¬ t.kind = 7) : sz (k + 1) t = (t.parts.map (sz k)).sum + 1 := by
  have e : sizeS (k + 1) t = cut1001 (sumS (t.parts.map (sizeS k)) + 1) := by show cut1001 (_ + 1) = _; rw [if_neg h7]
  have hc : ¬ 1001 < sumS (t.parts.map (sizeS k)) + 1 := fun q => by rw [e, cut1001_yes q] at h; omega
  rw [cut1001_no hc] at e
  have h1 := sumS_exact k t.parts (by omega)
  have h2 := sz_int (k + 1) t
  omega
theorem sz_times {k : Nat} {t : Tr} (h : sizeS (k + 1) t ≤ 150) (h7 : t.kind = 7) : sz (k + 1) t = (t.parts.map (sz k)).sum * (timesS t.lo t.hi).toNat + 1 := by
  have e : sizeS (k + 1) t = cut1001 (sumS (t.parts.map (sizeS k)) * timesS t.lo t.hi + 1) := by show cut1001 (_ + 1) = _; rw [if_pos h7]
  have hT := timesS_ge t.lo t.hi
  have hs0 := sumS_nonneg k t.parts
  have hc : ¬ 1001 < sumS (t.parts.map (sizeS k)) * timesS t.lo t.hi + 1 := fun q => by rw [e, cut1001_yes q] at h; omega
  rw [cut1001_no hc] at e
  have hm : sumS (t.parts.map (sizeS k)) * 1 ≤ sumS (t.parts.map (sizeS k)) * timesS t.lo t.hi := Int.mul_le_mul_of_nonneg_left hT hs0
  rw [Int.mul_one] at hm
  have h1 := sumS_exact k t.parts (by omega)
  have h2 := sz_int (k + 1) t
  have h3 : ((timesS t.lo t.hi).toNat : Int) = timesS t.lo t.hi := Int.toNat_of_nonneg (by omega)
  apply Int.ofNat_inj.1
  rw [Int.natCast_add, Int.natCast_mul, h3, h1, h2, e]
  rfl
theorem sz_sum {k : Nat} {t : Tr} (h : sizeS (k + 1) t ≤ 150) : (t.parts.map (sz k)).sum + 1 ≤ sz (k + 1) t ∧ sz (k + 1) t ≤ 150 := by
  have h2 := sz_int (k + 1) t
  refine ⟨?_, by omega⟩
  by_cases h7 : t.kind = 7
  · rw [sz_times h h7]
    have hT := timesS_ge t.lo t.hi
    have : (t.parts.map (sz k)).sum * 1 ≤ (t.parts.map (sz k)).sum * (timesS t.lo t.hi).toNat := Nat.mul_le_mul_left _ (by omega)
    omega
  · rw [sz_plain h h7]; exact Nat.le_refl _
theorem sz_mem {k : Nat} : ∀ {l : List Tr} {p : Tr}, p ∈ l → sz k p ≤ (l.map (sz k)).sum
  | [], _, h => by cases h
  | a :: l, p, h => by
    rw [List.map_cons, List.sum_cons]
    rcases List.mem_cons.1 h with rfl | h
    · omega
    · have := sz_mem (k := k) h; omega
theorem sz_pos {k : Nat} {t : Tr} (h : formedS k t = true) : 1 ≤ sz k t := by
  cases k with
  | zero => cases h
  | succ k =>
    have h2 := sz_int (k + 1) t
    have e : sizeS (k + 1) t = cut1001 ((if t.kind = 7 then sumS (t.parts.map (sizeS k)) * timesS t.lo t.hi else sumS (t.parts.map (sizeS k))) + 1) := rfl
    have hs0 := sumS_nonneg k t.parts
    have hx : 0 ≤ (if t.kind = 7 then sumS (t.parts.map (sizeS k)) * timesS t.lo t.hi else sumS (t.parts.map (sizeS k))) := by
      split
      · exact Int.mul_nonneg hs0 (by have := timesS_ge t.lo t.hi; omega)
      · exact hs0
    have : 1 ≤ sizeS (k + 1) t := by
      rw [e]
      unfold cut1001
      split <;> omega
    omega
theorem sz_others {k : Nat} : ∀ {l : List Tr} (i : Nat) (h : i < l.length), (∀ p ∈ l, 1 ≤ sz k p) → sz k l[i] + (l.length - 1) ≤ (l.map (sz k)).sum
  | [], i, h, _ => absurd h (Nat.not_lt_zero _)
  | a :: l, 0, _, hp => by
    have hl : ∀ m : List Tr, (∀ p ∈ m, 1 ≤ sz k p) → m.length ≤ (m.map (sz k)).sum := fun m => by
      induction m with
      | nil => exact fun _ => Nat.le_refl _
      | cons b m ih =>
        intro h
        have h1 := ih (fun p q => h p (List.mem_cons_of_mem _ q))
        have h2 := h b (by simp)
        rw [List.map_cons, List.sum_cons, List.length_cons]
        omega
    have := hl l (fun p q => hp p (List.mem_cons_of_mem _ q))
    rw [List.map_cons, List.sum_cons, List.length_cons]
    simp
    omega
  | a :: l, i + 1, h, hp => by
    have h0 : i < l.length := by simpa using h
    have h1 := sz_others i h0 (fun p q => hp p (List.mem_cons_of_mem _ q))
    have h2 := hp a (by simp)
    rw [List.map_cons, List.sum_cons, List.length_cons]
    simp
    omega
theorem sum_pair {f : Int → Nat} {g : Tr → Nat} : ∀ {xs : List Int} {ps : List Tr}, xs.length = ps.length → (∀ i (h1 : i < xs.length) (h2 : i < ps.length), f xs[i] ≤ g ps[i]) → (xs.map f).sum ≤ (ps.map g).sum
  | [], [], _, _ => Nat.le_refl _
  | [], _ :: _, h, _ => by cases h
  | _ :: _, [], h, _ => by cases h
  | x :: xs, p :: ps, h, hi => by
    have h1 := sum_pair (f := f) (g := g) (xs := xs) (ps := ps) (by simpa using h) (fun i h1 h2 => hi (i + 1) (by simpa using h1) (by simpa using h2))
    have h2 := hi 0 (by simp) (by simp)
    rw [List.map_cons, List.map_cons, List.sum_cons, List.sum_cons]
    simp at h2
    omega
theorem fifth : ∀ n, n < 151 → n * (150 - n) ≤ 5700 := by decide

end Go.Proofs.YtcghclikkeajfaaGreat
