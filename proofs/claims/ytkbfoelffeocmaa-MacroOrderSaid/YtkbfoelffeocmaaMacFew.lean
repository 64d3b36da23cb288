/- The law's Few; its awake. -/
import Derived.Test.YtkbfoelffeocmaaMacTop
import Derived.Test.YtkbfoelffeocmaaOpenMacs
import Derived.Test.YtkbfoelffeocmaaAwake5
namespace Go.Proofs.Ytkbfoelffeocmaa
open Go.RowKit
set_option linter.unusedSimpArgs false
set_option linter.unusedVariables false

def sumM (ms : List (ByteArray × ByteArray)) : Nat → Nat
  | 0 => 0
  | k + 1 => sumM ms k + (atM ms k).2.size
def FewTo (ms : List (ByteArray × ByteArray)) (i : Nat) : Prop := i ≤ 25 ∧ sumM ms i ≤ 3000 ∧ ∀ j, j < i → (atM ms j).1.size ≤ 100
theorem sumM_ge (ms : List (ByteArray × ByteArray)) : ∀ n j, j < n → (atM ms j).2.size ≤ sumM ms n
  | 0, j, h => absurd h (Nat.not_lt_zero _)
  | k + 1, j, h => by
    show _ ≤ sumM ms k + (atM ms k).2.size
    by_cases e : j = k
    · subst e; omega
    · have := sumM_ge ms k j (by omega); omega
theorem few_short {ms : List (ByteArray × ByteArray)} (h : FewTo ms ms.length) : ms.length ≤ 25 ∧ ShortM ms ∧ SmallM ms :=
  ⟨h.1, fun j hj => ⟨by have := h.2.2 j hj; omega, by have := sumM_ge ms _ j hj; have := h.2.1; omega⟩, fun j hj => by have := sumM_ge ms _ j hj; have := h.2.1; omega⟩

def FewPost (ms : List (ByteArray × ByteArray)) (w : World) (e : Ending) (w' : World) : Prop := ∃ b : Bool, e = .returned (.bool b) ∧ (b = true → FewTo ms ms.length) ∧ w' = w

set_option maxRecDepth 100000 in
set_option maxHeartbeats 4000000 in
theorem lawFew (ms : List (ByteArray × ByteArray)) (A : Option Addr) (n c : Nat) (w : World) (hm : MacsAt w (.slice A n c) ms) (hf : FitM ms) :
    Calls Try.prog 5 #[.slice A n c] w (FewPost ms w) := by
  obtain rfl := hm.len
  have hln := hf.1
  have HM := Lib.hid hm
  have HF := Lib.hid hf.2
  clear hm hf
  go_enter Try.func5, Try.ntmps5
  go_wp2_with fail
  go_loopw [3, 7] (fun s i wr => ∃ (j : Nat), j ≤ ms.length ∧ i = .int .i64 j ∧ s = .int .i64 (sumM ms j) ∧ Hid (FewTo ms j) ∧ Hid (wr = w)) (fun _ i _ => ms.length - (intOf i).toNat)
  case atStart => exact ⟨0, Nat.zero_le _, rfl, rfl, Lib.hid ⟨Nat.zero_le _, Nat.zero_le _, fun j hj => absurd hj (Nat.not_lt_zero _)⟩, Lib.hid rfl⟩
  case round =>
    obtain ⟨j, hj, rfl, rfl, HT, HE⟩ := hrel
    obtain rfl := HE.out
    by_cases hjl : j < ms.length
    · have hjz : (0 : Int) ≤ (j : Int) := by omega
      have hjn : (j : Int) < (ms.length : Int) := by omega
      obtain ⟨A', cap, e1, _, h3⟩ := HM.out
      injection e1 with e1 _ e3
      subst e1
      subst e3
      obtain ⟨b, off, rfl, hb, hr⟩ := h3 (by omega)
      have c0 : wr.cell? ⟨b, off + j * 2, none⟩ = some (.string (atM ms j).1) := hr j hjl 0 _ rfl
      have c1 : wr.cell? ⟨b, off + j * 2 + 1, none⟩ = some (.string (atM ms j).2) := hr j hjl 1 _ rfl
      have hfit := HF.out j hjl
      have hT := HT.out
      have HN : Hid (sumM ms (j + 1) = sumM ms j + (atM ms j).2.size) := Lib.hid rfl
      have HK : Hid (j < 25 → sumM ms j + (atM ms j).2.size ≤ 3000 → (atM ms j).1.size ≤ 100 → FewTo ms (j + 1)) := Lib.hid (fun a b c => ⟨a, b, fun k hk => by
        by_cases e : k = j
        · subst e; exact c
        · exact hT.2.2 k (by omega)⟩)
      have hs1 : sumM ms j ≤ 3000 := hT.2.1
      clear hr h3 hb hT
      generalize atM ms j = m at c0 c1 hfit HN HK
      generalize sumM ms j = s at HN HK hs1
      by_cases h25 : j < 25
      · have d25 : ¬ (25 : Int) ≤ (j : Int) := by omega
        by_cases h3000 : s + m.2.size ≤ 3000
        · have d3 : ¬ (3000 : Int) < ((s + m.2.size : Nat) : Int) := by omega
          have d3' : ¬ (3000 : Int) < (s : Int) + (m.2.size : Int) := by omega
          by_cases h100 : m.1.size ≤ 100
          · have d1 : ¬ (100 : Int) < (m.1.size : Int) := by omega
            have HK2 := Lib.hid (HK.out h25 h3000 h100)
            go_wp2_with fail
            exact ⟨⟨j + 1, by omega, by go_num, by rw [HN.out]; go_num, HK2, Lib.hid trivial⟩, by simp [intOf]; omega⟩
          · have d1 : (100 : Int) < (m.1.size : Int) := by omega
            go_wp2_with fail
            go_ret
            exact ⟨false, rfl, fun h => (by cases h), rfl⟩
        · have d3 : (3000 : Int) < ((s + m.2.size : Nat) : Int) := by omega
          have d3' : (3000 : Int) < (s : Int) + (m.2.size : Int) := by omega
          go_wp2_with fail
          go_ret
          exact ⟨false, rfl, fun h => (by cases h), rfl⟩
      · have d25 : (25 : Int) ≤ (j : Int) := by omega
        go_wp2_with fail
        go_ret
        exact ⟨false, rfl, fun h => (by cases h), rfl⟩
    · obtain rfl : j = ms.length := by omega
      go_wp2_with fail
      go_ret
      exact ⟨true, rfl, fun _ => HT.out, rfl⟩

end Go.Proofs.Ytkbfoelffeocmaa
