/- What the reference's Digits answers, for numbers up to 20. -/
import Derived.Test.YtibmcdgnponpmaaDoorProg
import Derived.Test.YtibmcdgnponpmaaDoorMa
import Derived.Laws.IdiomStrings
namespace Go.Proofs.YtibmcdgnponpmaaDoor
open Go.RowKit
set_option linter.unusedSimpArgs false
set_option linter.unusedVariables false

def digL (n : Nat) : List UInt8 := if 9 < n then [(48 + n / 10 % 10).toUInt8, (48 + n % 10).toUInt8] else [(48 + n % 10).toUInt8]
def digT (n : Nat) : ByteArray := ⟨(digL n).toArray⟩

set_option maxRecDepth 100000 in
set_option maxHeartbeats 4000000 in
theorem refDigits (n : Nat) (hn : n ≤ 20) (w : World) : Calls Tryd.prog 20 #[.int .i64 n] w fun e w' => e = .returned (.string (digT n)) ∧ Below w.heap.size w w' := by
  have hq : (n : Int) / 10 = ((n / 10 : Nat) : Int) := by omega
  by_cases h9 : 9 < n
  · have hd : (9 : Int) < (n : Int) := by omega
    have hT : Hid (digT n = ⟨[(48 + n / 10 % 10).toUInt8, (48 + n % 10).toUInt8].toArray⟩) := Lib.hid (by unfold digT digL; rw [if_pos h9])
    clear h9
    have hA := At.new w 5 #[.int .u8 (48 + n / 10 % 10), .int .u8 (48 + n % 10)]
    have hcv1 : (Go.convert 38 9 (.slice (some ⟨w.heap.size, 0, none⟩) 2 2)).run Tryd.prog (w.alloc (.cells #[.int .u8 (48 + n / 10 % 10), .int .u8 (48 + n % 10)] 5)) = .ok (.string (digT n)) (w.alloc (.cells #[.int .u8 (48 + n / 10 % 10), .int .u8 (48 + n % 10)] 5)) := by
      rw [hT.out]
      refine run_convert_bytes_back _ 38 9 5 ⟨w.heap.size, 0, none⟩ 2 [(48 + n / 10 % 10).toUInt8, (48 + n % 10).toUInt8] Tryd.underlying38 Tryd.underlying5 Tryd.underlying9 (fun j hj => ?_)
      have hj' : j < 2 := hj
      rw [Addr.add_mid, hA.cell]
      have e1 : ((48 + n / 10 % 10).toUInt8.toNat : Int) = 48 + (n : Int) / 10 % 10 := by
        rw [show (48 + n / 10 % 10).toUInt8.toNat = 48 + n / 10 % 10 from UInt8.toNat_ofNat_of_lt' (by show _ < 256; omega)]; omega
      have e2 : ((48 + n % 10).toUInt8.toNat : Int) = 48 + (n : Int) % 10 := by
        rw [show (48 + n % 10).toUInt8.toNat = 48 + n % 10 from UInt8.toNat_ofNat_of_lt' (by show _ < 256; omega)]; omega
      match j, hj' with
      | 0, _ => show some _ = some _; rw [List.getElem_cons_zero, e1]; rfl
      | 1, _ => show some _ = some _; rw [List.getElem_cons_succ, List.getElem_cons_zero, e2]; rfl
    have hb : Below w.heap.size w (w.alloc (.cells #[.int .u8 (48 + n / 10 % 10), .int .u8 (48 + n % 10)] 5)) := (Below.refl _ _).alloc (Nat.le_refl _) _
    clear hA hq
    go_enter Tryd.func20, Tryd.ntmps20
    go_wp2
    go_ret
    exact ⟨rfl, hb⟩
  · have hd : ¬ (9 : Int) < (n : Int) := by omega
    have hT : Hid (digT n = ⟨[(48 + n % 10).toUInt8].toArray⟩) := Lib.hid (by unfold digT digL; rw [if_neg h9])
    clear h9
    have hA := At.new w 5 #[.int .u8 (48 + n % 10)]
    have hcv1 : (Go.convert 38 9 (.slice (some ⟨w.heap.size, 0, none⟩) 1 1)).run Tryd.prog (w.alloc (.cells #[.int .u8 (48 + n % 10)] 5)) = .ok (.string (digT n)) (w.alloc (.cells #[.int .u8 (48 + n % 10)] 5)) := by
      rw [hT.out]
      refine run_convert_bytes_back _ 38 9 5 ⟨w.heap.size, 0, none⟩ 1 [(48 + n % 10).toUInt8] Tryd.underlying38 Tryd.underlying5 Tryd.underlying9 (fun j hj => ?_)
      have hj' : j < 1 := hj
      rw [Addr.add_mid, hA.cell]
      have e2 : ((48 + n % 10).toUInt8.toNat : Int) = 48 + (n : Int) % 10 := by
        rw [show (48 + n % 10).toUInt8.toNat = 48 + n % 10 from UInt8.toNat_ofNat_of_lt' (by show _ < 256; omega)]; omega
      match j, hj' with
      | 0, _ => show some _ = some _; rw [List.getElem_cons_zero, e2]; rfl
    have hb : Below w.heap.size w (w.alloc (.cells #[.int .u8 (48 + n % 10)] 5)) := (Below.refl _ _).alloc (Nat.le_refl _) _
    clear hA hq
    go_enter Tryd.func20, Tryd.ntmps20
    go_wp2
    go_ret
    exact ⟨rfl, hb⟩
end Go.Proofs.YtibmcdgnponpmaaDoor
