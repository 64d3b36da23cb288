/- What math/bits.OnesCount64 answers, of any word. -/
import Derived.Test.YtibmcdgnponpmaaDoorProg
import Derived.Test.YtibmcdgnponpmaaDoorLists
import Derived.Test.YtibmcdgnponpmaaDoorTab
namespace Go.Proofs.YtibmcdgnponpmaaDoor
open Go.RowKit

def mA : Nat := 6148914691236517205
def mB : Nat := 3689348814741910323
def mC : Nat := 1085102592571150095
theorem rep_a : rep 85 8 = mA := by decide +kernel
theorem rep_b : rep 51 8 = mB := by decide +kernel
theorem rep_c : rep 15 8 = mC := by decide +kernel
def pa (w : Nat) : Nat := (w / 2) &&& mA
def pb (w : Nat) : Nat := w &&& mA
def pc (w : Nat) : Nat := (w / 4) &&& mB
def pd (w : Nat) : Nat := w &&& mB
def pe (w : Nat) : Nat := w / 16 + w
def y1 (w : Nat) : Nat := s1 8 w
def y2 (w : Nat) : Nat := s2 8 (y1 w)
def y3 (w : Nat) : Nat := s3 8 (y2 w)
def y4 (w : Nat) : Nat := s4 (y3 w)
def y5 (w : Nat) : Nat := s5 (y4 w)
def y6 (w : Nat) : Nat := s6 (y5 w)
theorem y1_is (w : Nat) : y1 w = pa w + pb w := by unfold y1 s1 pa pb; rw [rep_a]
theorem y2_is (w : Nat) : y2 w = pc (y1 w) + pd (y1 w) := by unfold y2 s2 pc pd; rw [rep_b]
theorem y3_is (w : Nat) : y3 w = pe (y2 w) &&& mC := by unfold y3 s3 pe; rw [rep_c]
theorem y2_le (w : Nat) : y2 w ≤ 7378697629483820646 := by
  have h1 : pc (y1 w) ≤ mB := Nat.and_le_right
  have h2 : pd (y1 w) ≤ mB := Nat.and_le_right
  rw [y2_is]
  unfold mB at h1 h2
  omega
theorem y3_le (w : Nat) : y3 w ≤ 1085102592571150095 := by rw [y3_is]; exact Nat.and_le_right
theorem y4_le (w : Nat) : y4 w ≤ 2170205185142300190 := by have := y3_le w; unfold y4 s4; omega
theorem y5_le (w : Nat) : y5 w ≤ 4340410370284600380 := by have := y4_le w; unfold y5 s5; omega
theorem y6_le (w : Nat) : y6 w ≤ 8680820740569200760 := by have := y5_le w; unfold y6 s6; omega
theorem q_a (w : Nat) (h : U64 w) : bits .and .u64 ((w : Int) / 2) 6148914691236517205 = ((pa w : Nat) : Int) := by
  rw [show ((w : Int) / 2) = ((w / 2 : Nat) : Int) from by omega, show (6148914691236517205 : Int) = ((mA : Nat) : Int) from rfl]
  exact bits_and _ _ (Nat.lt_of_le_of_lt (Nat.div_le_self _ _) h) (by unfold U64 mA; omega)
theorem q_b (w : Nat) (h : U64 w) : bits .and .u64 (w : Int) 6148914691236517205 = ((pb w : Nat) : Int) := by
  rw [show (6148914691236517205 : Int) = ((mA : Nat) : Int) from rfl]
  exact bits_and _ _ h (by unfold U64 mA; omega)
theorem q_1 (w : Nat) : IntKind.u64.wrap (((pa w : Nat) : Int) + ((pb w : Nat) : Int)) = ((y1 w : Nat) : Int) := by
  have h1 : pa w ≤ mA := Nat.and_le_right
  have h2 : pb w ≤ mA := Nat.and_le_right
  unfold mA at h1 h2
  rw [y1_is, IntKind.wrap_u64]
  omega
theorem y1_u64 (w : Nat) : U64 (y1 w) := by
  have h1 : pa w ≤ mA := Nat.and_le_right
  have h2 : pb w ≤ mA := Nat.and_le_right
  unfold mA at h1 h2
  rw [y1_is]
  unfold U64
  omega
theorem q_c (w : Nat) (h : U64 w) : bits .and .u64 ((w : Int) / 4) 3689348814741910323 = ((pc w : Nat) : Int) := by
  rw [show ((w : Int) / 4) = ((w / 4 : Nat) : Int) from by omega, show (3689348814741910323 : Int) = ((mB : Nat) : Int) from rfl]
  exact bits_and _ _ (Nat.lt_of_le_of_lt (Nat.div_le_self _ _) h) (by unfold U64 mB; omega)
theorem q_d (w : Nat) (h : U64 w) : bits .and .u64 (w : Int) 3689348814741910323 = ((pd w : Nat) : Int) := by
  rw [show (3689348814741910323 : Int) = ((mB : Nat) : Int) from rfl]
  exact bits_and _ _ h (by unfold U64 mB; omega)
theorem q_2 (w : Nat) : IntKind.u64.wrap (((pc (y1 w) : Nat) : Int) + ((pd (y1 w) : Nat) : Int)) = ((y2 w : Nat) : Int) := by
  have h := y2_le w
  rw [y2_is] at h ⊢
  rw [IntKind.wrap_u64]
  omega
theorem q_e (w : Nat) : IntKind.u64.wrap (((y2 w : Nat) : Int) / 16 + ((y2 w : Nat) : Int)) = ((pe (y2 w) : Nat) : Int) := by
  have h := y2_le w
  unfold pe
  rw [IntKind.wrap_u64]
  omega
theorem q_3 (w : Nat) : bits .and .u64 ((pe (y2 w) : Nat) : Int) 1085102592571150095 = ((y3 w : Nat) : Int) := by
  have h := y2_le w
  rw [y3_is, show (1085102592571150095 : Int) = ((mC : Nat) : Int) from rfl]
  exact bits_and _ _ (by unfold U64 pe; omega) (by unfold U64 mC; omega)
theorem q_4 (w : Nat) : IntKind.u64.wrap (((y3 w : Nat) : Int) + ((y3 w : Nat) : Int) / 256) = ((y4 w : Nat) : Int) := by
  have h := y3_le w
  unfold y4 s4
  rw [IntKind.wrap_u64]
  omega
theorem q_5 (w : Nat) : IntKind.u64.wrap (((y4 w : Nat) : Int) + ((y4 w : Nat) : Int) / 65536) = ((y5 w : Nat) : Int) := by
  have h := y4_le w
  unfold y5 s5
  rw [IntKind.wrap_u64]
  omega
theorem q_6 (w : Nat) : IntKind.u64.wrap (((y5 w : Nat) : Int) + ((y5 w : Nat) : Int) / 4294967296) = ((y6 w : Nat) : Int) := by
  have h := y5_le w
  unfold y6 s6
  rw [IntKind.wrap_u64]
  omega
theorem q_7 (w : Nat) : IntKind.i64.wrap ((y6 w : Nat) : Int) = ((y6 w : Nat) : Int) := by
  have h := y6_le w
  rw [IntKind.wrap_i64]
  omega
theorem ofInt_i64' (a : Nat) (ha : a < 9223372036854775808) : (BitVec.ofInt 64 (a : Int)).toNat = a := by
  rw [BitVec.ofInt_natCast, BitVec.toNat_ofNat]; exact Nat.mod_eq_of_lt (by omega)
theorem q_8 (w : Nat) : bits .and .i64 ((y6 w : Nat) : Int) 127 = (((ws w).length : Nat) : Int) := by
  have h := y6_le w
  have hx : y6 w &&& 127 < 128 := Nat.lt_of_le_of_lt Nat.and_le_right (by omega)
  rw [← pop_is w]
  show IntKind.i64.wrap ((BitVec.ofInt 64 ((y6 w : Nat) : Int) &&& BitVec.ofInt 64 ((127 : Nat) : Int)).toNat : Int) = ((y6 w % 128 : Nat) : Int)
  rw [BitVec.toNat_and, ofInt_i64' _ (by omega), ofInt_i64' 127 (by omega), IntKind.wrap_i64, show (127 : Nat) = 2 ^ 7 - 1 from rfl, Nat.and_two_pow_sub_one_eq_mod]
  omega

set_option maxHeartbeats 2000000 in
theorem onesCount (w : Nat) (hw : U64 w) (W : World) :
    Calls Tryd.prog 50 #[.int .u64 w] W fun e W' => e = .returned (.int .i64 ((ws w).length : Nat)) ∧ W = W' := by
  have ea := q_a w hw
  have eb := q_b w hw
  have e1 := q_1 w
  have ec := q_c (y1 w) (y1_u64 w)
  have ed := q_d (y1 w) (y1_u64 w)
  have e2 := q_2 w
  have ee := q_e w
  have e3 := q_3 w
  have e4 := q_4 w
  have e5 := q_5 w
  have e6 := q_6 w
  have e7 := q_7 w
  have e8 := q_8 w
  go_enter Tryd.func50, Tryd.ntmps50
  go_wp2
  go_ret
  exact ⟨rfl, rfl⟩

end Go.Proofs.YtibmcdgnponpmaaDoor
