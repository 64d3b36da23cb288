/- Pieces of texts: their bytes, and what stands at their places; whether a text begins with another. -/
import Derived.Test.YtdcldhkpmihahaaTextE
import Derived.Lib.Strings
import Derived.Lib.Walk
import Derived.Lib.Bytealg
namespace Go.Proofs.Ytdcldhkpmihahaa
open Go.RowKit
set_option linter.unusedSimpArgs false
set_option linter.unusedVariables false

theorem bt_get (t : ByteArray) (i : Nat) : bt t i = ((t.data.toList[i]?).map UInt8.toNat).getD 0 := by
  unfold bt
  by_cases h : i < t.size
  · rw [dif_pos h, List.getElem?_eq_getElem (by rw [← Lib.size_eq]; exact h)]
    rfl
  · rw [dif_neg h, List.getElem?_eq_none (by rw [← Lib.size_eq]; omega)]
    rfl
theorem sub_size (t : ByteArray) (a b : Nat) (h : b ≤ t.size) : (t.extract a b).size = b - a := by
  rw [ByteArray.size_extract]; omega
theorem bt_sub (t : ByteArray) (a b i : Nat) (h : b ≤ t.size) (hi : a + i < b) : bt (t.extract a b) i = bt t (a + i) := by
  rw [bt_get, bt_get, ← Lib.toList_data, Lib.extract_toList, List.getElem?_take, if_pos (by omega), List.getElem?_drop]
theorem bt_past {t : ByteArray} {i : Nat} (h : t.size ≤ i) : bt t i = 0 := by unfold bt; rw [dif_neg (by omega)]
theorem bt_drop (t : ByteArray) (k i : Nat) (h : k ≤ t.size) : bt (t.extract k t.size) i = bt t (k + i) := by
  by_cases hi : k + i < t.size
  · exact bt_sub t k t.size i (Nat.le_refl _) hi
  · rw [bt_past (by rw [sub_size _ _ _ (Nat.le_refl _)]; omega), bt_past (by omega)]
theorem drop_size (t : ByteArray) (k : Nat) : (t.extract k t.size).size = t.size - k := sub_size t k t.size (Nat.le_refl _)
theorem char_drop (t own : ByteArray) (k i : Nat) (h : k ≤ t.size) : charS (t.extract k t.size) i own = charS t (k + i) own := by
  unfold charS escS
  rw [drop_size, bt_drop t k i h, bt_drop t k (i + 1) h, bt_drop t k (i + 2) h, bt_drop t k (i + 3) h]
  have e1 : (t.size - k ≤ i) = (t.size ≤ k + i) := by rw [eq_iff_iff]; omega
  have e2 : (t.size - k ≤ i + 1) = (t.size ≤ k + i + 1) := by rw [eq_iff_iff]; omega
  have e3 : (i + 3 < t.size - k) = (k + i + 3 < t.size) := by rw [eq_iff_iff]; omega
  rw [show k + (i + 1) = k + i + 1 from rfl, show k + (i + 2) = k + i + 2 from rfl, show k + (i + 3) = k + i + 3 from rfl]
  simp only [e1, e2, e3]
/-- From place i on the text goes on with q. -/
def preS (t : ByteArray) (i : Nat) : List UInt8 → Bool
  | [] => true
  | a :: q => decide (i < t.size ∧ bt t i = a.toNat) && preS t (i + 1) q
theorem pre_is (t : ByteArray) (q : List UInt8) : ∀ i, Lib.hasPrefix (t.data.toList.drop i) q = preS t i q := by
  unfold Lib.hasPrefix
  induction q with
  | nil => intro i; simp [preS]
  | cons a q ih =>
    intro i
    unfold preS
    rw [← ih (i + 1)]
    by_cases h : i < t.data.toList.length
    · rw [List.drop_eq_getElem_cons h]
      have hb : bt t i = (t.data.toList[i]'h).toNat := by rw [bt_get, List.getElem?_eq_getElem h]; rfl
      rw [hb]
      have e : (a == t.data.toList[i]'h) = decide (i < t.size ∧ (t.data.toList[i]'h).toNat = a.toNat) := by
        rw [Lib.size_eq, Bool.eq_iff_iff, beq_iff_eq, decide_eq_true_iff]
        constructor
        · intro x; exact ⟨h, by rw [← x]⟩
        · intro x; exact (UInt8.toNat_inj.1 x.2).symm
      rw [← e]
      rfl
    · rw [List.drop_eq_nil_of_le (by omega), decide_eq_false (by rw [Lib.size_eq]; omega)]
      rfl
set_option maxHeartbeats 1000000 in
theorem textPrefix (t q : ByteArray) (w : World) :
    Calls Try.prog 29 #[.string t, .string q] w fun e w' => e = .returned (.bool (preS t 0 q.data.toList)) ∧ w = w' := by
  have hp := pre_is t q.data.toList 0
  rw [List.drop_zero, ← Lib.hasPrefix_of_take, ← Lib.size_eq, ← Lib.size_eq] at hp
  rw [← hp]
  clear hp
  go_enter Try.func29, Try.ntmps29
  go_wp2
  · rename_i h
    go_ret
    refine ⟨?_, rfl⟩
    show Ending.returned (Value.bool ((t.extract 0 q.size).toList == q.toList)) = _
    rw [Lib.extract_toList, Lib.toList_data]
    simp [h]
  · rename_i h
    go_ret
    refine ⟨?_, rfl⟩
    show Ending.returned (Value.bool false) = _
    simp [h]
theorem textPrefixV (t q : ByteArray) (v : Bool) (hv : preS t 0 q.data.toList = v) (w : World) :
    Calls Try.prog 29 #[.string t, .string q] w fun e w' => e = .returned (.bool v) ∧ w = w' := by
  rw [← hv]; exact textPrefix t q w
/-- The first place of c from i on; the text's end where there is none. -/
def findS (t : ByteArray) (c : Nat) : Nat → Nat → Nat
  | 0, i => i
  | f + 1, i => if t.size ≤ i ∨ bt t i = c then i else findS t c f (i + 1)
theorem u8_nat (c : Nat) (h : c < 256) : c.toUInt8.toNat = c := by
  show (UInt8.ofNat c).toNat = c
  rw [UInt8.toNat_ofNat']
  omega
theorem find_here {t : ByteArray} {c f i : Nat} (h : t.size ≤ i ∨ bt t i = c) : findS t c (f + 1) i = i := by rw [findS, if_pos h]
theorem find_next {t : ByteArray} {c f i : Nat} (h : ¬ (t.size ≤ i ∨ bt t i = c)) : findS t c (f + 1) i = findS t c f (i + 1) := by rw [findS, if_neg h]
theorem find_is (t : ByteArray) (c : Nat) (hc : c < 256) : ∀ f i, i ≤ t.size → t.size < i + f →
    Lib.indexByte (t.data.toList.drop i) c.toUInt8 = (if findS t c f i < t.size then ((findS t c f i : Nat) : Int) - i else -1) ∧ i ≤ findS t c f i ∧ findS t c f i ≤ t.size := by
  intro f
  induction f with
  | zero => intro i h1 h2; omega
  | succ f ih =>
    intro i h1 h2
    by_cases h : i < t.size
    · have hl : i < t.data.toList.length := by rw [← Lib.size_eq]; exact h
      rw [List.drop_eq_getElem_cons hl]
      have hb : bt t i = (t.data.toList[i]'hl).toNat := by rw [bt_get, List.getElem?_eq_getElem hl]; rfl
      unfold Lib.indexByte
      by_cases e : bt t i = c
      · have e2 : (t.data.toList[i]'hl) = c.toUInt8 := UInt8.toNat_inj.1 (by rw [← hb, e, u8_nat c hc])
        rw [find_here (Or.inr e), if_pos (by rw [e2]; simp), if_pos h]
        omega
      · have e2 : ¬ (t.data.toList[i]'hl) = c.toUInt8 := fun x => e (by rw [hb, x, u8_nat c hc])
        obtain ⟨i1, i2, i3⟩ := ih (i + 1) (by omega) (by omega)
        rw [find_next (by omega), if_neg (by simpa using e2), i1]
        refine ⟨?_, by omega, i3⟩
        by_cases hf : findS t c f (i + 1) < t.size
        · rw [if_pos hf, if_pos hf, if_neg (by rw [beq_iff_eq]; omega)]; omega
        · rw [if_neg hf, if_neg hf]; rfl
    · rw [find_here (Or.inl (by omega)), List.drop_eq_nil_of_le (by rw [← Lib.size_eq]; omega), if_neg h]
      exact ⟨rfl, Nat.le_refl _, h1⟩
set_option maxHeartbeats 1000000 in
set_option maxRecDepth 100000 in
theorem textIndex (t : ByteArray) (c : Nat) (hc : c < 256) (f : Nat) (hf : t.size < f) (w : World) :
    Calls Try.prog 45 #[.string t, .int .u8 c] w fun e w' => e = .returned (.int .i64 (if findS t c f 0 < t.size then ((findS t c f 0 : Nat) : Int) else -1)) ∧ w = w' := by
  have hi := (find_is t c hc f 0 (Nat.zero_le _) (by omega)).1
  rw [List.drop_zero] at hi
  simp only [Int.ofNat_eq_natCast, Int.natCast_zero, Int.sub_zero] at hi
  rw [show c.toUInt8 = (c : Int).toNat.toUInt8 from by rw [Int.toNat_natCast]] at hi
  obtain ⟨v, hv⟩ : ∃ v : Int, (if findS t c f 0 < t.size then ((findS t c f 0 : Nat) : Int) else -1) = v := ⟨_, rfl⟩
  rw [hv] at hi ⊢
  have HI := Lib.hid hi
  clear hi hv
  go_enter Try.func45, Try.ntmps45
  go_wp2
  rw [run_callFunc_extern Try.func49 (by kernel_rfl) (by kernel_rfl) (by kernel_rfl) (e := Extern.BytealgIndexByte.indexByte) (by kernel_rfl), Lib.run_indexByteString, HI.out]
  simp only [Result.andThen]
  rw [Oper.upon_value]
  go_wp2
  go_ret
  exact ⟨rfl, rfl⟩
theorem textIndexByte (t : ByteArray) (c : Nat) (hc : c < 256) (f : Nat) (hf : t.size < f) (v : Int) (hv : (if findS t c f 0 < t.size then ((findS t c f 0 : Nat) : Int) else -1) = v) (w : World) :
    Calls Try.prog 32 #[.string t, .int .u8 c] w fun e w' => e = .returned (.int .i64 v) ∧ w = w' := by
  have hi := fun w => textIndex t c hc f hf w
  rw [hv] at hi
  go_enter Try.func32, Try.ntmps32
  go_wp2_with fail
  refine (hi _).mono ?_
  rintro e w1 ⟨rfl, rfl⟩
  go_wp2
  go_ret
  exact ⟨rfl, rfl⟩
end Go.Proofs.Ytdcldhkpmihahaa
