/- What the reference's Hex answers. -/
import Derived.Test.YtibmcdgnponpmaaDoorProg
import Derived.Test.YtibmcdgnponpmaaDoorMa
import Derived.Laws.IdiomStrings
import Derived.Deep.QuietTactic
import Derived.BigQuiet
namespace Go.Proofs.YtibmcdgnponpmaaDoor
open Go.RowKit
set_option linter.unusedSimpArgs false
set_option linter.unusedVariables false

def hexd (n : Nat) : UInt8 := if n < 10 then (48 + n).toUInt8 else (87 + n).toUInt8
def hexT (b : Nat) : ByteArray := ⟨#[hexd (b / 16), hexd (b % 16)]⟩
theorem digit_at : ∀ q : Fin 16, (ByteArray.mk #[48, 49, 50, 51, 52, 53, 54, 55, 56, 57, 97, 98, 99, 100, 101, 102]).extract q.val (q.val + 1) = ByteArray.mk #[hexd q.val] := by decide +kernel
set_option maxRecDepth 100000 in
set_option maxHeartbeats 4000000 in
theorem refHex (b : Nat) (hb : b < 256) (w : World) : Calls Tryd.prog 32 #[.int .i64 b] w fun e w' => e = .returned (.string (hexT b)) ∧ ∃ n, w' = w.drewN n := by
  obtain ⟨q, hq⟩ : ∃ q : Nat, b / 16 = q := ⟨_, rfl⟩
  obtain ⟨r, hr⟩ : ∃ r : Nat, b % 16 = r := ⟨_, rfl⟩
  have h1 : IntKind.i64.wrap ((b : Int) / 16) = (q : Int) := by rw [IntKind.wrap_i64]; omega
  have h2 : IntKind.i64.wrap ((q : Int) + 1) = (q : Int) + 1 := by rw [IntKind.wrap_i64]; omega
  have h3 : IntKind.i64.wrap ((b : Int) % 16) = (r : Int) := by rw [IntKind.wrap_i64]; omega
  have h4 : IntKind.i64.wrap ((r : Int) + 1) = (r : Int) + 1 := by rw [IntKind.wrap_i64]; omega
  have hq16 : q < 16 := by omega
  have hr16 : r < 16 := by omega
  have c1 : (0 : Int) ≤ (q : Int) + 1 := by omega
  have c2 : (q : Int) + 1 ≤ 16 := by omega
  have c3 : (q : Int) ≤ (q : Int) + 1 := by omega
  have c4 : (0 : Int) ≤ (r : Int) + 1 := by omega
  have c5 : (r : Int) + 1 ≤ 16 := by omega
  have c6 : (r : Int) ≤ (r : Int) + 1 := by omega
  have HE : Hid ((ByteArray.mk #[48, 49, 50, 51, 52, 53, 54, 55, 56, 57, 97, 98, 99, 100, 101, 102]).extract q (q + 1) ++ (ByteArray.mk #[48, 49, 50, 51, 52, 53, 54, 55, 56, 57, 97, 98, 99, 100, 101, 102]).extract (b % 16) (b % 16 + 1) = hexT b) := Lib.hid (by
    rw [hr, digit_at ⟨q, hq16⟩, digit_at ⟨r, hr16⟩]
    unfold hexT
    rw [hq, hr]; rfl)
  clear hb hq hr hq16 hr16
  go_enter Tryd.func32, Tryd.ntmps32
  go_wp2_with fail
  go_quiet (fail)
  go_wp2_with fail
  go_ret
  exact ⟨by rw [← HE.out]; rfl, nq, rfl⟩
end Go.Proofs.YtibmcdgnponpmaaDoor
