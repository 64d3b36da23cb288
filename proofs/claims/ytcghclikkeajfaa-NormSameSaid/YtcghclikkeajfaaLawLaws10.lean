/- bolterlaw10.laws: the laws hold of three nodes, by what putting together does. -/
import Derived.Test.YtcghclikkeajfaaMf
namespace Go.Proofs.Ytcghclikkeajfaa
open Go.RowKit
set_option linter.unusedSimpArgs false
set_option linter.unusedVariables false

def NoIs (ns : List Nd) (x : Int) : Prop := isIn ns x ∧ kd ns x = 0
def EmIs (ns : List Nd) (x : Int) : Prop := isIn ns x ∧ kd ns x = 1
def AlIs (ns : List Nd) (x : Int) : Prop := isIn ns x ∧ isAl ns x = true
def MemB (ns : List Nd) (k : Int) (c : Nat) (x : Int) : Prop := isIn ns x ∧ (mem ns k x).length ≤ c
def CatB (ns : List Nd) (c : Nat) (x : Int) : Prop := isIn ns x ∧ catN ns x ≤ c
def JoinI (ns : List Nd) (k : Int) (l : List Int) (r : Int) : Prop := (k = 4 ∨ k = 5) ∧ (∀ x ∈ l, isIn ns x) ∧ JoinR ns k l r
def CatI (ns : List Nd) (x y r : Int) : Prop := isIn ns x ∧ isIn ns y ∧ CatR ns x y r
def NotI (ns : List Nd) (x r : Int) : Prop := isIn ns x ∧ NotR ns x r
def StarI (ns : List Nd) (x r : Int) : Prop := isIn ns x ∧ StarR ns x r
section
variable {ns ns' : List Nd} (hf : FineN ns) (hu : Up ns ns') {k x y r : Int} {c : Nat} {l : List Int}
theorem NoIs.upTo (h : NoIs ns x) (hf : FineN ns) (hu : Up ns ns') : NoIs ns' x := ⟨h.1.upTo hu, by rw [kd_upTo h.1 hu]; exact h.2⟩
theorem EmIs.upTo (h : EmIs ns x) (hf : FineN ns) (hu : Up ns ns') : EmIs ns' x := ⟨h.1.upTo hu, by rw [kd_upTo h.1 hu]; exact h.2⟩
theorem AlIs.upTo (h : AlIs ns x) (hf : FineN ns) (hu : Up ns ns') : AlIs ns' x := ⟨h.1.upTo hu, by rw [isAl_upTo hf h.1 hu]; exact h.2⟩
theorem MemB.upTo (h : MemB ns k c x) (hk : k = 4 ∨ k = 5) (hf : FineN ns) (hu : Up ns ns') : MemB ns' k c x := by
  obtain ⟨more, rfl⟩ := hu
  exact ⟨h.1.up more, by rw [mem_up hf hk more _ x (Nat.le_refl _) h.1]; exact h.2⟩
theorem CatB.upTo (h : CatB ns c x) (hf : FineN ns) (hu : Up ns ns') : CatB ns' c x := by
  obtain ⟨more, rfl⟩ := hu
  exact ⟨h.1.up more, by unfold catN; rw [catV_up hf more h.1]; exact h.2⟩
theorem JoinI.upTo (h : JoinI ns k l r) (hf : FineN ns) (hu : Up ns ns') : JoinI ns' k l r := ⟨h.1, fun x hx => (h.2.1 x hx).upTo hu, h.2.2.upTo hf h.1 h.2.1 hu⟩
theorem CatI.upTo (h : CatI ns x y r) (hf : FineN ns) (hu : Up ns ns') : CatI ns' x y r := ⟨h.1.upTo hu, h.2.1.upTo hu, h.2.2.upTo hf h.1 h.2.1 hu⟩
theorem NotI.upTo (h : NotI ns x r) (hf : FineN ns) (hu : Up ns ns') : NotI ns' x r := ⟨h.1.upTo hu, h.2.upTo h.1 hu⟩
theorem StarI.upTo (h : StarI ns x r) (hf : FineN ns) (hu : Up ns ns') : StarI ns' x r := ⟨h.1.upTo hu, h.2.upTo h.1 hu⟩
theorem NoIs.mem (h : NoIs ns x) {k : Int} (hk : k = 4 ∨ k = 5) : (mem ns k x).length = 1 := by rw [mem_leaf (by rw [h.2]; omega)]; rfl
theorem AlIs.kd (h : AlIs ns x) : kd ns x = 6 := by
  have := h.2
  unfold isAl at this
  rw [Bool.and_eq_true, decide_eq_true_eq] at this
  exact this.1
theorem AlIs.mem (h : AlIs ns x) {k : Int} (hk : k = 4 ∨ k = 5) : (mem ns k x).length = 1 := by rw [mem_leaf (by rw [h.kd]; omega)]; rfl
theorem NoIs.no (h : NoIs ns x) : isNo ns x = true := decide_eq_true h.2
theorem EmIs.catN (h : EmIs ns x) : catN ns x = 0 := by show ((catV ns x).getD []).length = 0; rw [cat_empty h.2]; rfl
theorem NoIs.catN (h : NoIs ns x) : catN ns x = 0 := by show ((catV ns x).getD []).length = 0; rw [cat_none h.2]; rfl
theorem cat_with_right (hx : isIn ns x) (he : EmIs ns y) : CatR ns x y x := ⟨hx, by rw [cat_empty he.2]; cases catV ns x <;> simp [catJ]⟩
theorem cat_with_left (hx : isIn ns x) (he : EmIs ns y) : CatR ns y x x := ⟨hx, by rw [cat_empty he.2]; cases catV ns x <;> simp [catJ]⟩
theorem cat_none_right (he : NoIs ns y) : CatR ns x y y := ⟨he.1, by rw [cat_none he.2]; cases catV ns x <;> simp [catJ]⟩
theorem cat_none_left (he : NoIs ns y) : CatR ns y x y := ⟨he.1, by rw [cat_none he.2]; cases catV ns x <;> simp [catJ]⟩
theorem cat_back {z p q : Int} (h1 : CatR ns x y p) (h2 : CatR ns p z r) (h3 : CatR ns y z q) : CatR ns x q r := ⟨h2.1, by rw [h2.2, h1.2, h3.2, catJ_assoc]⟩
theorem join_of_none (hc : Canon ns) (hk : k = 4 ∨ k = 5) {u : Int} (hu : isIn ns u) (hb : unitB ns k u = true) : JoinR ns k [] u :=
  ⟨hu, fun a => by
    rw [view_unit hc hk hu hb, clos_no]
    · simp
    · rintro (h | ⟨_, h⟩)
      · simp at h
      · have := h 0 (by omega); simp at this⟩
theorem NoIs.unit4 (h : NoIs ns x) : unitB ns 4 x = true := h.no
theorem AlIs.top4 (h : AlIs ns x) : topB ns 4 x = true := h.2
theorem AlIs.unit5 (h : AlIs ns x) : unitB ns 5 x = true := h.2
theorem NoIs.top5 (h : NoIs ns x) : topB ns 5 x = true := h.no
end
section
variable {AA : World → Value → List Nd → (Nat → Prop) → Prop}

set_option maxRecDepth 100000 in
set_option maxHeartbeats 32000000 in
theorem lawLaws10 (S : ArenaBig AA) (N : NormSpec AA) {w : World} {a : Value} {ns : List Nd} {F : Nat → Prop} (x y z : Int) (W : Nat) (h : AA w a ns F) (hc : Canon ns) (hx : LenB ns W W W x) (hy : LenB ns W W W y) (hz : LenB ns W W W z) (hW : 1 ≤ W) (hroom : ns.length + 21 * W + 130 ≤ 20000) :
    Calls Try.prog 17 #[a, .int .i64 x, .int .i64 y, .int .i64 z] w fun e w' => e = .returned (.bool true) ∧ ∃ ns', LSt AA w w' a ns F (18 * W + 117) ns' ∧ Up ns ns' := by
  have HS0 : Hid (LSt AA w w a ns F 0 ns) := Lib.hid (LSt.start h hc)
  have HU0 : Hid (Up ns ns) := Lib.hid (Up.refl _)
  have HX0 := Lib.hid hx
  have HY0 := Lib.hid hy
  have HZ0 := Lib.hid hz
  clear h hc hx hy hz
  go_enter Try.func17, Try.ntmps17
  go_wp2_with fail
  refine (stNone N HS0.out (by omega)).mono ?_
  rintro e w1 ⟨un, ns1, rfl, hs, hu, hin, hkd⟩
  have HS1 := Lib.hid hs
  have HU1 := Lib.hid (HU0.out.trans hu)
  have HX1 := Lib.hid (HX0.out.up HS0.out.canon.fine hu)
  have HY1 := Lib.hid (HY0.out.up HS0.out.canon.fine hu)
  have HZ1 := Lib.hid (HZ0.out.up HS0.out.canon.fine hu)
  have HN1 := Lib.hid (show NoIs ns1 un from ⟨hin, hkd⟩)
  clear hs hu HX0 HY0 HZ0 HS0 HU0
  go_wp2_with fail
  refine (stAll N HS1.out (by omega)).mono ?_
  rintro e w2 ⟨ul, ns2, rfl, hs, hu, hin, hkd⟩
  have HS2 := Lib.hid hs
  have HU2 := Lib.hid (HU1.out.trans hu)
  have HX2 := Lib.hid (HX1.out.up HS1.out.canon.fine hu)
  have HY2 := Lib.hid (HY1.out.up HS1.out.canon.fine hu)
  have HZ2 := Lib.hid (HZ1.out.up HS1.out.canon.fine hu)
  have HN2 := Lib.hid (HN1.out.upTo HS1.out.canon.fine hu)
  have HL2 := Lib.hid (show AlIs ns2 ul from ⟨hin, hkd⟩)
  clear hs hu HX1 HY1 HZ1 HN1 HS1 HU1
  go_wp2_with fail
  refine (stEmpty N HS2.out (by omega)).mono ?_
  rintro e w3 ⟨ue, ns3, rfl, hs, hu, hin, hkd⟩
  have HS3 := Lib.hid hs
  have HU3 := Lib.hid (HU2.out.trans hu)
  have HX3 := Lib.hid (HX2.out.up HS2.out.canon.fine hu)
  have HY3 := Lib.hid (HY2.out.up HS2.out.canon.fine hu)
  have HZ3 := Lib.hid (HZ2.out.up HS2.out.canon.fine hu)
  have HN3 := Lib.hid (HN2.out.upTo HS2.out.canon.fine hu)
  have HL3 := Lib.hid (HL2.out.upTo HS2.out.canon.fine hu)
  have HE3 := Lib.hid (show EmIs ns3 ue from ⟨hin, hkd⟩)
  clear hs hu HX2 HY2 HZ2 HN2 HL2 HS2 HU2
  go_wp2_with fail
  refine (stOr N (HS3.out.alloc S (.cells #[.int .i64 x, .int .i64 y] 3)) [x, y] (list_two w3 x y 3) (in2 HX3.out.1 HY3.out.1) (2 * W) (by rw [memN_two]; have := HX3.out.2.1; have := HY3.out.2.1; omega) (by omega)).mono ?_
  rintro e w4 ⟨p4, ns4, rfl, hs, hu, hj⟩
  have HS4 := Lib.hid hs
  have HU4 := Lib.hid (HU3.out.trans hu)
  have HX4 := Lib.hid (HX3.out.up HS3.out.canon.fine hu)
  have HY4 := Lib.hid (HY3.out.up HS3.out.canon.fine hu)
  have HZ4 := Lib.hid (HZ3.out.up HS3.out.canon.fine hu)
  have HN4 := Lib.hid (HN3.out.upTo HS3.out.canon.fine hu)
  have HL4 := Lib.hid (HL3.out.upTo HS3.out.canon.fine hu)
  have HE4 := Lib.hid (HE3.out.upTo HS3.out.canon.fine hu)
  have JA4_4 := Lib.hid (show JoinI ns4 4 [x, y] p4 from ⟨Or.inl rfl, fun z hz => ((in2 HX3.out.1 HY3.out.1) z hz).upTo hu, hj⟩)
  have MP4_4 := Lib.hid (show MemB ns4 4 (2 * W) p4 from ⟨hj.1, by have := join_len hs.canon (Or.inl rfl) ((HX3.out.1).upTo hu) ((HY3.out.1).upTo hu) hj; have q1 := (HX3.out.up HS3.out.canon.fine hu).2.1; have q2 := (HY3.out.up HS3.out.canon.fine hu).2.1; omega⟩)
  clear hs hu HX3 HY3 HZ3 HN3 HL3 HE3 HS3 HU3
  go_wp2_with fail
  refine (stOrOld N (HS4.out.alloc S (.cells #[.int .i64 y, .int .i64 x] 3)) [y, x] (join_turn JA4_4.out.2.2) (list_two w4 y x 3) (in2 HY4.out.1 HX4.out.1) (2 * W) (by rw [memN_two]; have := HY4.out.2.1; have := HX4.out.2.1; omega) (by omega)).mono ?_
  rintro e w5 ⟨rfl, ns5, hs, hu⟩
  have HS5 := Lib.hid hs
  have HU5 := Lib.hid (HU4.out.trans hu)
  have HX5 := Lib.hid (HX4.out.up HS4.out.canon.fine hu)
  have HY5 := Lib.hid (HY4.out.up HS4.out.canon.fine hu)
  have HZ5 := Lib.hid (HZ4.out.up HS4.out.canon.fine hu)
  have HN5 := Lib.hid (HN4.out.upTo HS4.out.canon.fine hu)
  have HL5 := Lib.hid (HL4.out.upTo HS4.out.canon.fine hu)
  have HE5 := Lib.hid (HE4.out.upTo HS4.out.canon.fine hu)
  have JA4_5 := Lib.hid (JA4_4.out.upTo HS4.out.canon.fine hu)
  have MP4_5 := Lib.hid (MP4_4.out.upTo (Or.inl rfl) HS4.out.canon.fine hu)
  clear hs hu HX4 HY4 HZ4 HN4 HL4 HE4 JA4_4 MP4_4 HS4 HU4
  go_wp2_with fail
  refine (stOr N (HS5.out.alloc S (.cells #[.int .i64 y, .int .i64 z] 3)) [y, z] (list_two w5 y z 3) (in2 HY5.out.1 HZ5.out.1) (2 * W) (by rw [memN_two]; have := HY5.out.2.1; have := HZ5.out.2.1; omega) (by omega)).mono ?_
  rintro e w6 ⟨q4, ns6, rfl, hs, hu, hj⟩
  have HS6 := Lib.hid hs
  have HU6 := Lib.hid (HU5.out.trans hu)
  have HX6 := Lib.hid (HX5.out.up HS5.out.canon.fine hu)
  have HY6 := Lib.hid (HY5.out.up HS5.out.canon.fine hu)
  have HZ6 := Lib.hid (HZ5.out.up HS5.out.canon.fine hu)
  have HN6 := Lib.hid (HN5.out.upTo HS5.out.canon.fine hu)
  have HL6 := Lib.hid (HL5.out.upTo HS5.out.canon.fine hu)
  have HE6 := Lib.hid (HE5.out.upTo HS5.out.canon.fine hu)
  have JA4_6 := Lib.hid (JA4_5.out.upTo HS5.out.canon.fine hu)
  have MP4_6 := Lib.hid (MP4_5.out.upTo (Or.inl rfl) HS5.out.canon.fine hu)
  have JB4_6 := Lib.hid (show JoinI ns6 4 [y, z] q4 from ⟨Or.inl rfl, fun z hz => ((in2 HY5.out.1 HZ5.out.1) z hz).upTo hu, hj⟩)
  have MQ4_6 := Lib.hid (show MemB ns6 4 (2 * W) q4 from ⟨hj.1, by have := join_len hs.canon (Or.inl rfl) ((HY5.out.1).upTo hu) ((HZ5.out.1).upTo hu) hj; have q1 := (HY5.out.up HS5.out.canon.fine hu).2.1; have q2 := (HZ5.out.up HS5.out.canon.fine hu).2.1; omega⟩)
  clear hs hu HX5 HY5 HZ5 HN5 HL5 HE5 JA4_5 MP4_5 HS5 HU5
  go_wp2_with fail
  refine (stOr N (HS6.out.alloc S (.cells #[.int .i64 x, .int .i64 q4] 3)) [x, q4] (list_two w6 x q4 3) (in2 HX6.out.1 MQ4_6.out.1) (3 * W) (by rw [memN_two]; have := HX6.out.2.1; have := MQ4_6.out.2; omega) (by omega)).mono ?_
  rintro e w7 ⟨r4, ns7, rfl, hs, hu, hj⟩
  have HS7 := Lib.hid hs
  have HU7 := Lib.hid (HU6.out.trans hu)
  have HX7 := Lib.hid (HX6.out.up HS6.out.canon.fine hu)
  have HY7 := Lib.hid (HY6.out.up HS6.out.canon.fine hu)
  have HZ7 := Lib.hid (HZ6.out.up HS6.out.canon.fine hu)
  have HN7 := Lib.hid (HN6.out.upTo HS6.out.canon.fine hu)
  have HL7 := Lib.hid (HL6.out.upTo HS6.out.canon.fine hu)
  have HE7 := Lib.hid (HE6.out.upTo HS6.out.canon.fine hu)
  have JA4_7 := Lib.hid (JA4_6.out.upTo HS6.out.canon.fine hu)
  have MP4_7 := Lib.hid (MP4_6.out.upTo (Or.inl rfl) HS6.out.canon.fine hu)
  have JB4_7 := Lib.hid (JB4_6.out.upTo HS6.out.canon.fine hu)
  have MQ4_7 := Lib.hid (MQ4_6.out.upTo (Or.inl rfl) HS6.out.canon.fine hu)
  have JC4_7 := Lib.hid (show JoinI ns7 4 [x, q4] r4 from ⟨Or.inl rfl, fun z hz => ((in2 HX6.out.1 MQ4_6.out.1) z hz).upTo hu, hj⟩)
  clear hs hu HX6 HY6 HZ6 HN6 HL6 HE6 JA4_6 MP4_6 JB4_6 MQ4_6 HS6 HU6
  go_wp2_with fail
  refine (stOrOld N (HS7.out.alloc S (.cells #[.int .i64 x, .int .i64 y] 3)) [x, y] (JA4_7.out.2.2) (list_two w7 x y 3) (in2 HX7.out.1 HY7.out.1) (2 * W) (by rw [memN_two]; have := HX7.out.2.1; have := HY7.out.2.1; omega) (by omega)).mono ?_
  rintro e w8 ⟨rfl, ns8, hs, hu⟩
  have HS8 := Lib.hid hs
  have HU8 := Lib.hid (HU7.out.trans hu)
  have HX8 := Lib.hid (HX7.out.up HS7.out.canon.fine hu)
  have HY8 := Lib.hid (HY7.out.up HS7.out.canon.fine hu)
  have HZ8 := Lib.hid (HZ7.out.up HS7.out.canon.fine hu)
  have HN8 := Lib.hid (HN7.out.upTo HS7.out.canon.fine hu)
  have HL8 := Lib.hid (HL7.out.upTo HS7.out.canon.fine hu)
  have HE8 := Lib.hid (HE7.out.upTo HS7.out.canon.fine hu)
  have JA4_8 := Lib.hid (JA4_7.out.upTo HS7.out.canon.fine hu)
  have MP4_8 := Lib.hid (MP4_7.out.upTo (Or.inl rfl) HS7.out.canon.fine hu)
  have JB4_8 := Lib.hid (JB4_7.out.upTo HS7.out.canon.fine hu)
  have MQ4_8 := Lib.hid (MQ4_7.out.upTo (Or.inl rfl) HS7.out.canon.fine hu)
  have JC4_8 := Lib.hid (JC4_7.out.upTo HS7.out.canon.fine hu)
  clear hs hu HX7 HY7 HZ7 HN7 HL7 HE7 JA4_7 MP4_7 JB4_7 MQ4_7 JC4_7 HS7 HU7
  go_wp2_with fail
  refine (stOrOld N (HS8.out.alloc S (.cells #[.int .i64 p4, .int .i64 z] 3)) [p4, z] (join_back JA4_8.out.2.2 (join_right JB4_8.out.2.2 JC4_8.out.2.2)) (list_two w8 p4 z 3) (in2 MP4_8.out.1 HZ8.out.1) (3 * W) (by rw [memN_two]; have := MP4_8.out.2; have := HZ8.out.2.1; omega) (by omega)).mono ?_
  rintro e w9 ⟨rfl, ns9, hs, hu⟩
  have HS9 := Lib.hid hs
  have HU9 := Lib.hid (HU8.out.trans hu)
  have HX9 := Lib.hid (HX8.out.up HS8.out.canon.fine hu)
  have HY9 := Lib.hid (HY8.out.up HS8.out.canon.fine hu)
  have HZ9 := Lib.hid (HZ8.out.up HS8.out.canon.fine hu)
  have HN9 := Lib.hid (HN8.out.upTo HS8.out.canon.fine hu)
  have HL9 := Lib.hid (HL8.out.upTo HS8.out.canon.fine hu)
  have HE9 := Lib.hid (HE8.out.upTo HS8.out.canon.fine hu)
  have JA4_9 := Lib.hid (JA4_8.out.upTo HS8.out.canon.fine hu)
  have MP4_9 := Lib.hid (MP4_8.out.upTo (Or.inl rfl) HS8.out.canon.fine hu)
  have JB4_9 := Lib.hid (JB4_8.out.upTo HS8.out.canon.fine hu)
  have MQ4_9 := Lib.hid (MQ4_8.out.upTo (Or.inl rfl) HS8.out.canon.fine hu)
  have JC4_9 := Lib.hid (JC4_8.out.upTo HS8.out.canon.fine hu)
  clear hs hu HX8 HY8 HZ8 HN8 HL8 HE8 JA4_8 MP4_8 JB4_8 MQ4_8 JC4_8 HS8 HU8
  go_wp2_with fail
  refine (stOrOld N (HS9.out.alloc S (.cells #[.int .i64 x, .int .i64 x] 3)) [x, x] (join_self HS9.out.canon (Or.inl rfl) HX9.out.1) (list_two w9 x x 3) (in2 HX9.out.1 HX9.out.1) (2 * W) (by rw [memN_two]; have := HX9.out.2.1; have := HX9.out.2.1; omega) (by omega)).mono ?_
  rintro e w10 ⟨rfl, ns10, hs, hu⟩
  have HS10 := Lib.hid hs
  have HU10 := Lib.hid (HU9.out.trans hu)
  have HX10 := Lib.hid (HX9.out.up HS9.out.canon.fine hu)
  have HY10 := Lib.hid (HY9.out.up HS9.out.canon.fine hu)
  have HZ10 := Lib.hid (HZ9.out.up HS9.out.canon.fine hu)
  have HN10 := Lib.hid (HN9.out.upTo HS9.out.canon.fine hu)
  have HL10 := Lib.hid (HL9.out.upTo HS9.out.canon.fine hu)
  have HE10 := Lib.hid (HE9.out.upTo HS9.out.canon.fine hu)
  have JA4_10 := Lib.hid (JA4_9.out.upTo HS9.out.canon.fine hu)
  have MP4_10 := Lib.hid (MP4_9.out.upTo (Or.inl rfl) HS9.out.canon.fine hu)
  have JB4_10 := Lib.hid (JB4_9.out.upTo HS9.out.canon.fine hu)
  have MQ4_10 := Lib.hid (MQ4_9.out.upTo (Or.inl rfl) HS9.out.canon.fine hu)
  have JC4_10 := Lib.hid (JC4_9.out.upTo HS9.out.canon.fine hu)
  clear hs hu HX9 HY9 HZ9 HN9 HL9 HE9 JA4_9 MP4_9 JB4_9 MQ4_9 JC4_9 HS9 HU9
  go_wp2_with fail
  refine (stOrOld N (HS10.out.alloc S (.cells #[.int .i64 x, .int .i64 un] 3)) [x, un] (join_with_unit HS10.out.canon (Or.inl rfl) HX10.out.1 HN10.out.1 HN10.out.unit4) (list_two w10 x un 3) (in2 HX10.out.1 HN10.out.1) (W + 1) (by rw [memN_two]; have := HX10.out.2.1; have := HN10.out.mem (k := 4) (by omega); omega) (by omega)).mono ?_
  rintro e w11 ⟨rfl, ns11, hs, hu⟩
  have HS11 := Lib.hid hs
  have HU11 := Lib.hid (HU10.out.trans hu)
  have HX11 := Lib.hid (HX10.out.up HS10.out.canon.fine hu)
  have HY11 := Lib.hid (HY10.out.up HS10.out.canon.fine hu)
  have HZ11 := Lib.hid (HZ10.out.up HS10.out.canon.fine hu)
  have HN11 := Lib.hid (HN10.out.upTo HS10.out.canon.fine hu)
  have HL11 := Lib.hid (HL10.out.upTo HS10.out.canon.fine hu)
  have HE11 := Lib.hid (HE10.out.upTo HS10.out.canon.fine hu)
  have JA4_11 := Lib.hid (JA4_10.out.upTo HS10.out.canon.fine hu)
  have MP4_11 := Lib.hid (MP4_10.out.upTo (Or.inl rfl) HS10.out.canon.fine hu)
  have JB4_11 := Lib.hid (JB4_10.out.upTo HS10.out.canon.fine hu)
  have MQ4_11 := Lib.hid (MQ4_10.out.upTo (Or.inl rfl) HS10.out.canon.fine hu)
  have JC4_11 := Lib.hid (JC4_10.out.upTo HS10.out.canon.fine hu)
  clear hs hu HX10 HY10 HZ10 HN10 HL10 HE10 JA4_10 MP4_10 JB4_10 MQ4_10 JC4_10 HS10 HU10
  go_wp2_with fail
  refine (stOrOld N (HS11.out.alloc S (.cells #[.int .i64 x, .int .i64 ul] 3)) [x, ul] (join_with_top HS11.out.canon (Or.inl rfl) HL11.out.1 HL11.out.top4) (list_two w11 x ul 3) (in2 HX11.out.1 HL11.out.1) (W + 1) (by rw [memN_two]; have := HX11.out.2.1; have := HL11.out.mem (k := 4) (by omega); omega) (by omega)).mono ?_
  rintro e w12 ⟨rfl, ns12, hs, hu⟩
  have HS12 := Lib.hid hs
  have HU12 := Lib.hid (HU11.out.trans hu)
  have HX12 := Lib.hid (HX11.out.up HS11.out.canon.fine hu)
  have HY12 := Lib.hid (HY11.out.up HS11.out.canon.fine hu)
  have HZ12 := Lib.hid (HZ11.out.up HS11.out.canon.fine hu)
  have HN12 := Lib.hid (HN11.out.upTo HS11.out.canon.fine hu)
  have HL12 := Lib.hid (HL11.out.upTo HS11.out.canon.fine hu)
  have HE12 := Lib.hid (HE11.out.upTo HS11.out.canon.fine hu)
  have JA4_12 := Lib.hid (JA4_11.out.upTo HS11.out.canon.fine hu)
  have MP4_12 := Lib.hid (MP4_11.out.upTo (Or.inl rfl) HS11.out.canon.fine hu)
  have JB4_12 := Lib.hid (JB4_11.out.upTo HS11.out.canon.fine hu)
  have MQ4_12 := Lib.hid (MQ4_11.out.upTo (Or.inl rfl) HS11.out.canon.fine hu)
  have JC4_12 := Lib.hid (JC4_11.out.upTo HS11.out.canon.fine hu)
  clear hs hu HX11 HY11 HZ11 HN11 HL11 HE11 JA4_11 MP4_11 JB4_11 MQ4_11 JC4_11 HS11 HU11
  go_wp2_with fail
  refine (stOrOld N (HS12.out.alloc S (.cells #[.int .i64 x, .int .i64 y, .int .i64 z] 3)) [x, y, z] (join_right JB4_12.out.2.2 JC4_12.out.2.2) (list_three w12 x y z 3) (in3 HX12.out.1 HY12.out.1 HZ12.out.1) (3 * W) (by rw [memN_three]; have := HX12.out.2.1; have := HY12.out.2.1; have := HZ12.out.2.1; omega) (by omega)).mono ?_
  rintro e w13 ⟨rfl, ns13, hs, hu⟩
  have HS13 := Lib.hid hs
  have HU13 := Lib.hid (HU12.out.trans hu)
  have HX13 := Lib.hid (HX12.out.up HS12.out.canon.fine hu)
  have HY13 := Lib.hid (HY12.out.up HS12.out.canon.fine hu)
  have HZ13 := Lib.hid (HZ12.out.up HS12.out.canon.fine hu)
  have HN13 := Lib.hid (HN12.out.upTo HS12.out.canon.fine hu)
  have HL13 := Lib.hid (HL12.out.upTo HS12.out.canon.fine hu)
  have HE13 := Lib.hid (HE12.out.upTo HS12.out.canon.fine hu)
  have JA4_13 := Lib.hid (JA4_12.out.upTo HS12.out.canon.fine hu)
  have MP4_13 := Lib.hid (MP4_12.out.upTo (Or.inl rfl) HS12.out.canon.fine hu)
  have JB4_13 := Lib.hid (JB4_12.out.upTo HS12.out.canon.fine hu)
  have MQ4_13 := Lib.hid (MQ4_12.out.upTo (Or.inl rfl) HS12.out.canon.fine hu)
  have JC4_13 := Lib.hid (JC4_12.out.upTo HS12.out.canon.fine hu)
  clear hs hu HX12 HY12 HZ12 HN12 HL12 HE12 JA4_12 MP4_12 JB4_12 MQ4_12 JC4_12 HS12 HU12
  go_wp2_with fail
  refine (stOrOld N (HS13.out.alloc S (.cells #[.int .i64 y, .int .i64 z] 3)) [y, z] (JB4_13.out.2.2) (list_two w13 y z 3) (in2 HY13.out.1 HZ13.out.1) (2 * W) (by rw [memN_two]; have := HY13.out.2.1; have := HZ13.out.2.1; omega) (by omega)).mono ?_
  rintro e w14 ⟨rfl, ns14, hs, hu⟩
  have HS14 := Lib.hid hs
  have HU14 := Lib.hid (HU13.out.trans hu)
  have HX14 := Lib.hid (HX13.out.up HS13.out.canon.fine hu)
  have HY14 := Lib.hid (HY13.out.up HS13.out.canon.fine hu)
  have HZ14 := Lib.hid (HZ13.out.up HS13.out.canon.fine hu)
  have HN14 := Lib.hid (HN13.out.upTo HS13.out.canon.fine hu)
  have HL14 := Lib.hid (HL13.out.upTo HS13.out.canon.fine hu)
  have HE14 := Lib.hid (HE13.out.upTo HS13.out.canon.fine hu)
  have JA4_14 := Lib.hid (JA4_13.out.upTo HS13.out.canon.fine hu)
  have MP4_14 := Lib.hid (MP4_13.out.upTo (Or.inl rfl) HS13.out.canon.fine hu)
  have JB4_14 := Lib.hid (JB4_13.out.upTo HS13.out.canon.fine hu)
  have MQ4_14 := Lib.hid (MQ4_13.out.upTo (Or.inl rfl) HS13.out.canon.fine hu)
  have JC4_14 := Lib.hid (JC4_13.out.upTo HS13.out.canon.fine hu)
  clear hs hu HX13 HY13 HZ13 HN13 HL13 HE13 JA4_13 MP4_13 JB4_13 MQ4_13 JC4_13 HS13 HU13
  go_wp2_with fail
  refine (stOrOld N (HS14.out.alloc S (.cells #[.int .i64 x, .int .i64 q4] 3)) [x, q4] (JC4_14.out.2.2) (list_two w14 x q4 3) (in2 HX14.out.1 MQ4_14.out.1) (3 * W) (by rw [memN_two]; have := HX14.out.2.1; have := MQ4_14.out.2; omega) (by omega)).mono ?_
  rintro e w15 ⟨rfl, ns15, hs, hu⟩
  have HS15 := Lib.hid hs
  have HU15 := Lib.hid (HU14.out.trans hu)
  have HX15 := Lib.hid (HX14.out.up HS14.out.canon.fine hu)
  have HY15 := Lib.hid (HY14.out.up HS14.out.canon.fine hu)
  have HZ15 := Lib.hid (HZ14.out.up HS14.out.canon.fine hu)
  have HN15 := Lib.hid (HN14.out.upTo HS14.out.canon.fine hu)
  have HL15 := Lib.hid (HL14.out.upTo HS14.out.canon.fine hu)
  have HE15 := Lib.hid (HE14.out.upTo HS14.out.canon.fine hu)
  have JA4_15 := Lib.hid (JA4_14.out.upTo HS14.out.canon.fine hu)
  have MP4_15 := Lib.hid (MP4_14.out.upTo (Or.inl rfl) HS14.out.canon.fine hu)
  have JB4_15 := Lib.hid (JB4_14.out.upTo HS14.out.canon.fine hu)
  have MQ4_15 := Lib.hid (MQ4_14.out.upTo (Or.inl rfl) HS14.out.canon.fine hu)
  have JC4_15 := Lib.hid (JC4_14.out.upTo HS14.out.canon.fine hu)
  clear hs hu HX14 HY14 HZ14 HN14 HL14 HE14 JA4_14 MP4_14 JB4_14 MQ4_14 JC4_14 HS14 HU14
  go_wp2_with fail
  clear JA4_15
  clear JB4_15
  clear JC4_15
  clear MP4_15
  clear MQ4_15
  refine (stAnd N (HS15.out.alloc S (.cells #[.int .i64 x, .int .i64 y] 3)) [x, y] (list_two w15 x y 3) (in2 HX15.out.1 HY15.out.1) (2 * W) (by rw [memN_two]; have := HX15.out.2.2.1; have := HY15.out.2.2.1; omega) (by omega)).mono ?_
  rintro e w16 ⟨p5, ns16, rfl, hs, hu, hj⟩
  have HS16 := Lib.hid hs
  have HU16 := Lib.hid (HU15.out.trans hu)
  have HX16 := Lib.hid (HX15.out.up HS15.out.canon.fine hu)
  have HY16 := Lib.hid (HY15.out.up HS15.out.canon.fine hu)
  have HZ16 := Lib.hid (HZ15.out.up HS15.out.canon.fine hu)
  have HN16 := Lib.hid (HN15.out.upTo HS15.out.canon.fine hu)
  have HL16 := Lib.hid (HL15.out.upTo HS15.out.canon.fine hu)
  have HE16 := Lib.hid (HE15.out.upTo HS15.out.canon.fine hu)
  have JA5_16 := Lib.hid (show JoinI ns16 5 [x, y] p5 from ⟨Or.inr rfl, fun z hz => ((in2 HX15.out.1 HY15.out.1) z hz).upTo hu, hj⟩)
  have MP5_16 := Lib.hid (show MemB ns16 5 (2 * W) p5 from ⟨hj.1, by have := join_len hs.canon (Or.inr rfl) ((HX15.out.1).upTo hu) ((HY15.out.1).upTo hu) hj; have q1 := (HX15.out.up HS15.out.canon.fine hu).2.2.1; have q2 := (HY15.out.up HS15.out.canon.fine hu).2.2.1; omega⟩)
  clear hs hu HX15 HY15 HZ15 HN15 HL15 HE15 HS15 HU15
  go_wp2_with fail
  refine (stAndOld N (HS16.out.alloc S (.cells #[.int .i64 y, .int .i64 x] 3)) [y, x] (join_turn JA5_16.out.2.2) (list_two w16 y x 3) (in2 HY16.out.1 HX16.out.1) (2 * W) (by rw [memN_two]; have := HY16.out.2.2.1; have := HX16.out.2.2.1; omega) (by omega)).mono ?_
  rintro e w17 ⟨rfl, ns17, hs, hu⟩
  have HS17 := Lib.hid hs
  have HU17 := Lib.hid (HU16.out.trans hu)
  have HX17 := Lib.hid (HX16.out.up HS16.out.canon.fine hu)
  have HY17 := Lib.hid (HY16.out.up HS16.out.canon.fine hu)
  have HZ17 := Lib.hid (HZ16.out.up HS16.out.canon.fine hu)
  have HN17 := Lib.hid (HN16.out.upTo HS16.out.canon.fine hu)
  have HL17 := Lib.hid (HL16.out.upTo HS16.out.canon.fine hu)
  have HE17 := Lib.hid (HE16.out.upTo HS16.out.canon.fine hu)
  have JA5_17 := Lib.hid (JA5_16.out.upTo HS16.out.canon.fine hu)
  have MP5_17 := Lib.hid (MP5_16.out.upTo (Or.inr rfl) HS16.out.canon.fine hu)
  clear hs hu HX16 HY16 HZ16 HN16 HL16 HE16 JA5_16 MP5_16 HS16 HU16
  go_wp2_with fail
  refine (stAnd N (HS17.out.alloc S (.cells #[.int .i64 y, .int .i64 z] 3)) [y, z] (list_two w17 y z 3) (in2 HY17.out.1 HZ17.out.1) (2 * W) (by rw [memN_two]; have := HY17.out.2.2.1; have := HZ17.out.2.2.1; omega) (by omega)).mono ?_
  rintro e w18 ⟨q5, ns18, rfl, hs, hu, hj⟩
  have HS18 := Lib.hid hs
  have HU18 := Lib.hid (HU17.out.trans hu)
  have HX18 := Lib.hid (HX17.out.up HS17.out.canon.fine hu)
  have HY18 := Lib.hid (HY17.out.up HS17.out.canon.fine hu)
  have HZ18 := Lib.hid (HZ17.out.up HS17.out.canon.fine hu)
  have HN18 := Lib.hid (HN17.out.upTo HS17.out.canon.fine hu)
  have HL18 := Lib.hid (HL17.out.upTo HS17.out.canon.fine hu)
  have HE18 := Lib.hid (HE17.out.upTo HS17.out.canon.fine hu)
  have JA5_18 := Lib.hid (JA5_17.out.upTo HS17.out.canon.fine hu)
  have MP5_18 := Lib.hid (MP5_17.out.upTo (Or.inr rfl) HS17.out.canon.fine hu)
  have JB5_18 := Lib.hid (show JoinI ns18 5 [y, z] q5 from ⟨Or.inr rfl, fun z hz => ((in2 HY17.out.1 HZ17.out.1) z hz).upTo hu, hj⟩)
  have MQ5_18 := Lib.hid (show MemB ns18 5 (2 * W) q5 from ⟨hj.1, by have := join_len hs.canon (Or.inr rfl) ((HY17.out.1).upTo hu) ((HZ17.out.1).upTo hu) hj; have q1 := (HY17.out.up HS17.out.canon.fine hu).2.2.1; have q2 := (HZ17.out.up HS17.out.canon.fine hu).2.2.1; omega⟩)
  clear hs hu HX17 HY17 HZ17 HN17 HL17 HE17 JA5_17 MP5_17 HS17 HU17
  go_wp2_with fail
  refine (stAnd N (HS18.out.alloc S (.cells #[.int .i64 x, .int .i64 q5] 3)) [x, q5] (list_two w18 x q5 3) (in2 HX18.out.1 MQ5_18.out.1) (3 * W) (by rw [memN_two]; have := HX18.out.2.2.1; have := MQ5_18.out.2; omega) (by omega)).mono ?_
  rintro e w19 ⟨r5, ns19, rfl, hs, hu, hj⟩
  have HS19 := Lib.hid hs
  have HU19 := Lib.hid (HU18.out.trans hu)
  have HX19 := Lib.hid (HX18.out.up HS18.out.canon.fine hu)
  have HY19 := Lib.hid (HY18.out.up HS18.out.canon.fine hu)
  have HZ19 := Lib.hid (HZ18.out.up HS18.out.canon.fine hu)
  have HN19 := Lib.hid (HN18.out.upTo HS18.out.canon.fine hu)
  have HL19 := Lib.hid (HL18.out.upTo HS18.out.canon.fine hu)
  have HE19 := Lib.hid (HE18.out.upTo HS18.out.canon.fine hu)
  have JA5_19 := Lib.hid (JA5_18.out.upTo HS18.out.canon.fine hu)
  have MP5_19 := Lib.hid (MP5_18.out.upTo (Or.inr rfl) HS18.out.canon.fine hu)
  have JB5_19 := Lib.hid (JB5_18.out.upTo HS18.out.canon.fine hu)
  have MQ5_19 := Lib.hid (MQ5_18.out.upTo (Or.inr rfl) HS18.out.canon.fine hu)
  have JC5_19 := Lib.hid (show JoinI ns19 5 [x, q5] r5 from ⟨Or.inr rfl, fun z hz => ((in2 HX18.out.1 MQ5_18.out.1) z hz).upTo hu, hj⟩)
  clear hs hu HX18 HY18 HZ18 HN18 HL18 HE18 JA5_18 MP5_18 JB5_18 MQ5_18 HS18 HU18
  go_wp2_with fail
  refine (stAndOld N (HS19.out.alloc S (.cells #[.int .i64 x, .int .i64 y] 3)) [x, y] (JA5_19.out.2.2) (list_two w19 x y 3) (in2 HX19.out.1 HY19.out.1) (2 * W) (by rw [memN_two]; have := HX19.out.2.2.1; have := HY19.out.2.2.1; omega) (by omega)).mono ?_
  rintro e w20 ⟨rfl, ns20, hs, hu⟩
  have HS20 := Lib.hid hs
  have HU20 := Lib.hid (HU19.out.trans hu)
  have HX20 := Lib.hid (HX19.out.up HS19.out.canon.fine hu)
  have HY20 := Lib.hid (HY19.out.up HS19.out.canon.fine hu)
  have HZ20 := Lib.hid (HZ19.out.up HS19.out.canon.fine hu)
  have HN20 := Lib.hid (HN19.out.upTo HS19.out.canon.fine hu)
  have HL20 := Lib.hid (HL19.out.upTo HS19.out.canon.fine hu)
  have HE20 := Lib.hid (HE19.out.upTo HS19.out.canon.fine hu)
  have JA5_20 := Lib.hid (JA5_19.out.upTo HS19.out.canon.fine hu)
  have MP5_20 := Lib.hid (MP5_19.out.upTo (Or.inr rfl) HS19.out.canon.fine hu)
  have JB5_20 := Lib.hid (JB5_19.out.upTo HS19.out.canon.fine hu)
  have MQ5_20 := Lib.hid (MQ5_19.out.upTo (Or.inr rfl) HS19.out.canon.fine hu)
  have JC5_20 := Lib.hid (JC5_19.out.upTo HS19.out.canon.fine hu)
  clear hs hu HX19 HY19 HZ19 HN19 HL19 HE19 JA5_19 MP5_19 JB5_19 MQ5_19 JC5_19 HS19 HU19
  go_wp2_with fail
  refine (stAndOld N (HS20.out.alloc S (.cells #[.int .i64 p5, .int .i64 z] 3)) [p5, z] (join_back JA5_20.out.2.2 (join_right JB5_20.out.2.2 JC5_20.out.2.2)) (list_two w20 p5 z 3) (in2 MP5_20.out.1 HZ20.out.1) (3 * W) (by rw [memN_two]; have := MP5_20.out.2; have := HZ20.out.2.2.1; omega) (by omega)).mono ?_
  rintro e w21 ⟨rfl, ns21, hs, hu⟩
  have HS21 := Lib.hid hs
  have HU21 := Lib.hid (HU20.out.trans hu)
  have HX21 := Lib.hid (HX20.out.up HS20.out.canon.fine hu)
  have HY21 := Lib.hid (HY20.out.up HS20.out.canon.fine hu)
  have HZ21 := Lib.hid (HZ20.out.up HS20.out.canon.fine hu)
  have HN21 := Lib.hid (HN20.out.upTo HS20.out.canon.fine hu)
  have HL21 := Lib.hid (HL20.out.upTo HS20.out.canon.fine hu)
  have HE21 := Lib.hid (HE20.out.upTo HS20.out.canon.fine hu)
  have JA5_21 := Lib.hid (JA5_20.out.upTo HS20.out.canon.fine hu)
  have MP5_21 := Lib.hid (MP5_20.out.upTo (Or.inr rfl) HS20.out.canon.fine hu)
  have JB5_21 := Lib.hid (JB5_20.out.upTo HS20.out.canon.fine hu)
  have MQ5_21 := Lib.hid (MQ5_20.out.upTo (Or.inr rfl) HS20.out.canon.fine hu)
  have JC5_21 := Lib.hid (JC5_20.out.upTo HS20.out.canon.fine hu)
  clear hs hu HX20 HY20 HZ20 HN20 HL20 HE20 JA5_20 MP5_20 JB5_20 MQ5_20 JC5_20 HS20 HU20
  go_wp2_with fail
  refine (stAndOld N (HS21.out.alloc S (.cells #[.int .i64 x, .int .i64 x] 3)) [x, x] (join_self HS21.out.canon (Or.inr rfl) HX21.out.1) (list_two w21 x x 3) (in2 HX21.out.1 HX21.out.1) (2 * W) (by rw [memN_two]; have := HX21.out.2.2.1; have := HX21.out.2.2.1; omega) (by omega)).mono ?_
  rintro e w22 ⟨rfl, ns22, hs, hu⟩
  have HS22 := Lib.hid hs
  have HU22 := Lib.hid (HU21.out.trans hu)
  have HX22 := Lib.hid (HX21.out.up HS21.out.canon.fine hu)
  have HY22 := Lib.hid (HY21.out.up HS21.out.canon.fine hu)
  have HZ22 := Lib.hid (HZ21.out.up HS21.out.canon.fine hu)
  have HN22 := Lib.hid (HN21.out.upTo HS21.out.canon.fine hu)
  have HL22 := Lib.hid (HL21.out.upTo HS21.out.canon.fine hu)
  have HE22 := Lib.hid (HE21.out.upTo HS21.out.canon.fine hu)
  have JA5_22 := Lib.hid (JA5_21.out.upTo HS21.out.canon.fine hu)
  have MP5_22 := Lib.hid (MP5_21.out.upTo (Or.inr rfl) HS21.out.canon.fine hu)
  have JB5_22 := Lib.hid (JB5_21.out.upTo HS21.out.canon.fine hu)
  have MQ5_22 := Lib.hid (MQ5_21.out.upTo (Or.inr rfl) HS21.out.canon.fine hu)
  have JC5_22 := Lib.hid (JC5_21.out.upTo HS21.out.canon.fine hu)
  clear hs hu HX21 HY21 HZ21 HN21 HL21 HE21 JA5_21 MP5_21 JB5_21 MQ5_21 JC5_21 HS21 HU21
  go_wp2_with fail
  refine (stAndOld N (HS22.out.alloc S (.cells #[.int .i64 x, .int .i64 ul] 3)) [x, ul] (join_with_unit HS22.out.canon (Or.inr rfl) HX22.out.1 HL22.out.1 HL22.out.unit5) (list_two w22 x ul 3) (in2 HX22.out.1 HL22.out.1) (W + 1) (by rw [memN_two]; have := HX22.out.2.2.1; have := HL22.out.mem (k := 5) (by omega); omega) (by omega)).mono ?_
  rintro e w23 ⟨rfl, ns23, hs, hu⟩
  have HS23 := Lib.hid hs
  have HU23 := Lib.hid (HU22.out.trans hu)
  have HX23 := Lib.hid (HX22.out.up HS22.out.canon.fine hu)
  have HY23 := Lib.hid (HY22.out.up HS22.out.canon.fine hu)
  have HZ23 := Lib.hid (HZ22.out.up HS22.out.canon.fine hu)
  have HN23 := Lib.hid (HN22.out.upTo HS22.out.canon.fine hu)
  have HL23 := Lib.hid (HL22.out.upTo HS22.out.canon.fine hu)
  have HE23 := Lib.hid (HE22.out.upTo HS22.out.canon.fine hu)
  have JA5_23 := Lib.hid (JA5_22.out.upTo HS22.out.canon.fine hu)
  have MP5_23 := Lib.hid (MP5_22.out.upTo (Or.inr rfl) HS22.out.canon.fine hu)
  have JB5_23 := Lib.hid (JB5_22.out.upTo HS22.out.canon.fine hu)
  have MQ5_23 := Lib.hid (MQ5_22.out.upTo (Or.inr rfl) HS22.out.canon.fine hu)
  have JC5_23 := Lib.hid (JC5_22.out.upTo HS22.out.canon.fine hu)
  clear hs hu HX22 HY22 HZ22 HN22 HL22 HE22 JA5_22 MP5_22 JB5_22 MQ5_22 JC5_22 HS22 HU22
  go_wp2_with fail
  refine (stAndOld N (HS23.out.alloc S (.cells #[.int .i64 x, .int .i64 un] 3)) [x, un] (join_with_top HS23.out.canon (Or.inr rfl) HN23.out.1 HN23.out.top5) (list_two w23 x un 3) (in2 HX23.out.1 HN23.out.1) (W + 1) (by rw [memN_two]; have := HX23.out.2.2.1; have := HN23.out.mem (k := 5) (by omega); omega) (by omega)).mono ?_
  rintro e w24 ⟨rfl, ns24, hs, hu⟩
  have HS24 := Lib.hid hs
  have HU24 := Lib.hid (HU23.out.trans hu)
  have HX24 := Lib.hid (HX23.out.up HS23.out.canon.fine hu)
  have HY24 := Lib.hid (HY23.out.up HS23.out.canon.fine hu)
  have HZ24 := Lib.hid (HZ23.out.up HS23.out.canon.fine hu)
  have HN24 := Lib.hid (HN23.out.upTo HS23.out.canon.fine hu)
  have HL24 := Lib.hid (HL23.out.upTo HS23.out.canon.fine hu)
  have HE24 := Lib.hid (HE23.out.upTo HS23.out.canon.fine hu)
  have JA5_24 := Lib.hid (JA5_23.out.upTo HS23.out.canon.fine hu)
  have MP5_24 := Lib.hid (MP5_23.out.upTo (Or.inr rfl) HS23.out.canon.fine hu)
  have JB5_24 := Lib.hid (JB5_23.out.upTo HS23.out.canon.fine hu)
  have MQ5_24 := Lib.hid (MQ5_23.out.upTo (Or.inr rfl) HS23.out.canon.fine hu)
  have JC5_24 := Lib.hid (JC5_23.out.upTo HS23.out.canon.fine hu)
  clear hs hu HX23 HY23 HZ23 HN23 HL23 HE23 JA5_23 MP5_23 JB5_23 MQ5_23 JC5_23 HS23 HU23
  go_wp2_with fail
  clear JA5_24
  clear JB5_24
  clear JC5_24
  clear MP5_24
  clear MQ5_24
  refine (stCatOld N HS24.out x ue (cat_with_right HX24.out.1 HE24.out) HX24.out.1 HE24.out.1 (W) (by have := HX24.out.2.2.2; omega) (by omega)).mono ?_
  rintro e w25 ⟨rfl, ns25, hs, hu⟩
  have HS25 := Lib.hid hs
  have HU25 := Lib.hid (HU24.out.trans hu)
  have HX25 := Lib.hid (HX24.out.up HS24.out.canon.fine hu)
  have HY25 := Lib.hid (HY24.out.up HS24.out.canon.fine hu)
  have HZ25 := Lib.hid (HZ24.out.up HS24.out.canon.fine hu)
  have HN25 := Lib.hid (HN24.out.upTo HS24.out.canon.fine hu)
  have HL25 := Lib.hid (HL24.out.upTo HS24.out.canon.fine hu)
  have HE25 := Lib.hid (HE24.out.upTo HS24.out.canon.fine hu)
  clear hs hu HX24 HY24 HZ24 HN24 HL24 HE24 HS24 HU24
  go_wp2_with fail
  refine (stCatOld N HS25.out ue x (cat_with_left HX25.out.1 HE25.out) HE25.out.1 HX25.out.1 (W) (by rw [HE25.out.catN]; omega) (by omega)).mono ?_
  rintro e w26 ⟨rfl, ns26, hs, hu⟩
  have HS26 := Lib.hid hs
  have HU26 := Lib.hid (HU25.out.trans hu)
  have HX26 := Lib.hid (HX25.out.up HS25.out.canon.fine hu)
  have HY26 := Lib.hid (HY25.out.up HS25.out.canon.fine hu)
  have HZ26 := Lib.hid (HZ25.out.up HS25.out.canon.fine hu)
  have HN26 := Lib.hid (HN25.out.upTo HS25.out.canon.fine hu)
  have HL26 := Lib.hid (HL25.out.upTo HS25.out.canon.fine hu)
  have HE26 := Lib.hid (HE25.out.upTo HS25.out.canon.fine hu)
  clear hs hu HX25 HY25 HZ25 HN25 HL25 HE25 HS25 HU25
  go_wp2_with fail
  refine (stCatOld N HS26.out x un (cat_none_right HN26.out) HX26.out.1 HN26.out.1 (W) (by have := HX26.out.2.2.2; omega) (by omega)).mono ?_
  rintro e w27 ⟨rfl, ns27, hs, hu⟩
  have HS27 := Lib.hid hs
  have HU27 := Lib.hid (HU26.out.trans hu)
  have HX27 := Lib.hid (HX26.out.up HS26.out.canon.fine hu)
  have HY27 := Lib.hid (HY26.out.up HS26.out.canon.fine hu)
  have HZ27 := Lib.hid (HZ26.out.up HS26.out.canon.fine hu)
  have HN27 := Lib.hid (HN26.out.upTo HS26.out.canon.fine hu)
  have HL27 := Lib.hid (HL26.out.upTo HS26.out.canon.fine hu)
  have HE27 := Lib.hid (HE26.out.upTo HS26.out.canon.fine hu)
  clear hs hu HX26 HY26 HZ26 HN26 HL26 HE26 HS26 HU26
  go_wp2_with fail
  refine (stCatOld N HS27.out un x (cat_none_left HN27.out) HN27.out.1 HX27.out.1 (W) (by rw [HN27.out.catN]; omega) (by omega)).mono ?_
  rintro e w28 ⟨rfl, ns28, hs, hu⟩
  have HS28 := Lib.hid hs
  have HU28 := Lib.hid (HU27.out.trans hu)
  have HX28 := Lib.hid (HX27.out.up HS27.out.canon.fine hu)
  have HY28 := Lib.hid (HY27.out.up HS27.out.canon.fine hu)
  have HZ28 := Lib.hid (HZ27.out.up HS27.out.canon.fine hu)
  have HN28 := Lib.hid (HN27.out.upTo HS27.out.canon.fine hu)
  have HL28 := Lib.hid (HL27.out.upTo HS27.out.canon.fine hu)
  have HE28 := Lib.hid (HE27.out.upTo HS27.out.canon.fine hu)
  clear hs hu HX27 HY27 HZ27 HN27 HL27 HE27 HS27 HU27
  go_wp2_with fail
  refine (stCat N HS28.out x y HX28.out.1 HY28.out.1 (W) (by have := HX28.out.2.2.2; omega) (by omega)).mono ?_
  rintro e w29 ⟨pc, ns29, rfl, hs, hu, hj⟩
  have HS29 := Lib.hid hs
  have HU29 := Lib.hid (HU28.out.trans hu)
  have HX29 := Lib.hid (HX28.out.up HS28.out.canon.fine hu)
  have HY29 := Lib.hid (HY28.out.up HS28.out.canon.fine hu)
  have HZ29 := Lib.hid (HZ28.out.up HS28.out.canon.fine hu)
  have HN29 := Lib.hid (HN28.out.upTo HS28.out.canon.fine hu)
  have HL29 := Lib.hid (HL28.out.upTo HS28.out.canon.fine hu)
  have HE29 := Lib.hid (HE28.out.upTo HS28.out.canon.fine hu)
  have CA29 := Lib.hid (show CatI ns29 x y pc from ⟨(HX28.out.1).upTo hu, (HY28.out.1).upTo hu, hj⟩)
  have CP29 := Lib.hid (show CatB ns29 (2 * W) pc from ⟨hj.1, by have := catN_le hj; have q1 := (HX28.out.up HS28.out.canon.fine hu).2.2.2; have q2 := (HY28.out.up HS28.out.canon.fine hu).2.2.2; omega⟩)
  clear hs hu HX28 HY28 HZ28 HN28 HL28 HE28 HS28 HU28
  go_wp2_with fail
  refine (stCat N HS29.out pc z CP29.out.1 HZ29.out.1 (2 * W) (by have := CP29.out.2; omega) (by omega)).mono ?_
  rintro e w30 ⟨rc, ns30, rfl, hs, hu, hj⟩
  have HS30 := Lib.hid hs
  have HU30 := Lib.hid (HU29.out.trans hu)
  have HX30 := Lib.hid (HX29.out.up HS29.out.canon.fine hu)
  have HY30 := Lib.hid (HY29.out.up HS29.out.canon.fine hu)
  have HZ30 := Lib.hid (HZ29.out.up HS29.out.canon.fine hu)
  have HN30 := Lib.hid (HN29.out.upTo HS29.out.canon.fine hu)
  have HL30 := Lib.hid (HL29.out.upTo HS29.out.canon.fine hu)
  have HE30 := Lib.hid (HE29.out.upTo HS29.out.canon.fine hu)
  have CA30 := Lib.hid (CA29.out.upTo HS29.out.canon.fine hu)
  have CP30 := Lib.hid (CP29.out.upTo HS29.out.canon.fine hu)
  have CB30 := Lib.hid (show CatI ns30 pc z rc from ⟨(CP29.out.1).upTo hu, (HZ29.out.1).upTo hu, hj⟩)
  clear hs hu HX29 HY29 HZ29 HN29 HL29 HE29 CA29 CP29 HS29 HU29
  go_wp2_with fail
  refine (stCat N HS30.out y z HY30.out.1 HZ30.out.1 (W) (by have := HY30.out.2.2.2; omega) (by omega)).mono ?_
  rintro e w31 ⟨qc, ns31, rfl, hs, hu, hj⟩
  have HS31 := Lib.hid hs
  have HU31 := Lib.hid (HU30.out.trans hu)
  have HX31 := Lib.hid (HX30.out.up HS30.out.canon.fine hu)
  have HY31 := Lib.hid (HY30.out.up HS30.out.canon.fine hu)
  have HZ31 := Lib.hid (HZ30.out.up HS30.out.canon.fine hu)
  have HN31 := Lib.hid (HN30.out.upTo HS30.out.canon.fine hu)
  have HL31 := Lib.hid (HL30.out.upTo HS30.out.canon.fine hu)
  have HE31 := Lib.hid (HE30.out.upTo HS30.out.canon.fine hu)
  have CA31 := Lib.hid (CA30.out.upTo HS30.out.canon.fine hu)
  have CP31 := Lib.hid (CP30.out.upTo HS30.out.canon.fine hu)
  have CB31 := Lib.hid (CB30.out.upTo HS30.out.canon.fine hu)
  have CC31 := Lib.hid (show CatI ns31 y z qc from ⟨(HY30.out.1).upTo hu, (HZ30.out.1).upTo hu, hj⟩)
  have CQ31 := Lib.hid (show CatB ns31 (2 * W) qc from ⟨hj.1, by have := catN_le hj; have q1 := (HY30.out.up HS30.out.canon.fine hu).2.2.2; have q2 := (HZ30.out.up HS30.out.canon.fine hu).2.2.2; omega⟩)
  clear hs hu HX30 HY30 HZ30 HN30 HL30 HE30 CA30 CP30 CB30 HS30 HU30
  go_wp2_with fail
  refine (stCatOld N HS31.out x qc (cat_back CA31.out.2.2 CB31.out.2.2 CC31.out.2.2) HX31.out.1 CQ31.out.1 (W) (by have := HX31.out.2.2.2; omega) (by omega)).mono ?_
  rintro e w32 ⟨rfl, ns32, hs, hu⟩
  have HS32 := Lib.hid hs
  have HU32 := Lib.hid (HU31.out.trans hu)
  have HX32 := Lib.hid (HX31.out.up HS31.out.canon.fine hu)
  have HY32 := Lib.hid (HY31.out.up HS31.out.canon.fine hu)
  have HZ32 := Lib.hid (HZ31.out.up HS31.out.canon.fine hu)
  have HN32 := Lib.hid (HN31.out.upTo HS31.out.canon.fine hu)
  have HL32 := Lib.hid (HL31.out.upTo HS31.out.canon.fine hu)
  have HE32 := Lib.hid (HE31.out.upTo HS31.out.canon.fine hu)
  have CA32 := Lib.hid (CA31.out.upTo HS31.out.canon.fine hu)
  have CP32 := Lib.hid (CP31.out.upTo HS31.out.canon.fine hu)
  have CB32 := Lib.hid (CB31.out.upTo HS31.out.canon.fine hu)
  have CC32 := Lib.hid (CC31.out.upTo HS31.out.canon.fine hu)
  have CQ32 := Lib.hid (CQ31.out.upTo HS31.out.canon.fine hu)
  clear hs hu HX31 HY31 HZ31 HN31 HL31 HE31 CA31 CP31 CB31 CC31 CQ31 HS31 HU31
  go_wp2_with fail
  refine (stNot N HS32.out x HX32.out.1 (by omega)).mono ?_
  rintro e w33 ⟨nx, ns33, rfl, hs, hu, hj⟩
  have HS33 := Lib.hid hs
  have HU33 := Lib.hid (HU32.out.trans hu)
  have HX33 := Lib.hid (HX32.out.up HS32.out.canon.fine hu)
  have HY33 := Lib.hid (HY32.out.up HS32.out.canon.fine hu)
  have HZ33 := Lib.hid (HZ32.out.up HS32.out.canon.fine hu)
  have HN33 := Lib.hid (HN32.out.upTo HS32.out.canon.fine hu)
  have HL33 := Lib.hid (HL32.out.upTo HS32.out.canon.fine hu)
  have HE33 := Lib.hid (HE32.out.upTo HS32.out.canon.fine hu)
  have CA33 := Lib.hid (CA32.out.upTo HS32.out.canon.fine hu)
  have CP33 := Lib.hid (CP32.out.upTo HS32.out.canon.fine hu)
  have CB33 := Lib.hid (CB32.out.upTo HS32.out.canon.fine hu)
  have CC33 := Lib.hid (CC32.out.upTo HS32.out.canon.fine hu)
  have CQ33 := Lib.hid (CQ32.out.upTo HS32.out.canon.fine hu)
  have NA33 := Lib.hid (show NotI ns33 x nx from ⟨(HX32.out.1).upTo hu, hj⟩)
  clear hs hu HX32 HY32 HZ32 HN32 HL32 HE32 CA32 CP32 CB32 CC32 CQ32 HS32 HU32
  go_wp2_with fail
  refine (stNot N HS33.out nx NA33.out.2.1 (by omega)).mono ?_
  rintro e w34 ⟨nn, ns34, rfl, hs, hu, hj⟩
  obtain rfl : x = nn := (not_not hs.canon ((HX33.out.1).upTo hu) (NA33.out.upTo HS33.out.canon.fine hu).2 hj).symm
  clear hj
  have HS34 := Lib.hid hs
  have HU34 := Lib.hid (HU33.out.trans hu)
  have HX34 := Lib.hid (HX33.out.up HS33.out.canon.fine hu)
  have HY34 := Lib.hid (HY33.out.up HS33.out.canon.fine hu)
  have HZ34 := Lib.hid (HZ33.out.up HS33.out.canon.fine hu)
  have HN34 := Lib.hid (HN33.out.upTo HS33.out.canon.fine hu)
  have HL34 := Lib.hid (HL33.out.upTo HS33.out.canon.fine hu)
  have HE34 := Lib.hid (HE33.out.upTo HS33.out.canon.fine hu)
  have CA34 := Lib.hid (CA33.out.upTo HS33.out.canon.fine hu)
  have CP34 := Lib.hid (CP33.out.upTo HS33.out.canon.fine hu)
  have CB34 := Lib.hid (CB33.out.upTo HS33.out.canon.fine hu)
  have CC34 := Lib.hid (CC33.out.upTo HS33.out.canon.fine hu)
  have CQ34 := Lib.hid (CQ33.out.upTo HS33.out.canon.fine hu)
  have NA34 := Lib.hid (NA33.out.upTo HS33.out.canon.fine hu)
  clear hs hu HX33 HY33 HZ33 HN33 HL33 HE33 CA33 CP33 CB33 CC33 CQ33 NA33 HS33 HU33
  go_wp2_with fail
  refine (stStar N HS34.out x HX34.out.1 (by omega)).mono ?_
  rintro e w35 ⟨sx, ns35, rfl, hs, hu, hj⟩
  have HS35 := Lib.hid hs
  have HU35 := Lib.hid (HU34.out.trans hu)
  have HX35 := Lib.hid (HX34.out.up HS34.out.canon.fine hu)
  have HY35 := Lib.hid (HY34.out.up HS34.out.canon.fine hu)
  have HZ35 := Lib.hid (HZ34.out.up HS34.out.canon.fine hu)
  have HN35 := Lib.hid (HN34.out.upTo HS34.out.canon.fine hu)
  have HL35 := Lib.hid (HL34.out.upTo HS34.out.canon.fine hu)
  have HE35 := Lib.hid (HE34.out.upTo HS34.out.canon.fine hu)
  have CA35 := Lib.hid (CA34.out.upTo HS34.out.canon.fine hu)
  have CP35 := Lib.hid (CP34.out.upTo HS34.out.canon.fine hu)
  have CB35 := Lib.hid (CB34.out.upTo HS34.out.canon.fine hu)
  have CC35 := Lib.hid (CC34.out.upTo HS34.out.canon.fine hu)
  have CQ35 := Lib.hid (CQ34.out.upTo HS34.out.canon.fine hu)
  have NA35 := Lib.hid (NA34.out.upTo HS34.out.canon.fine hu)
  have SA35 := Lib.hid (show StarI ns35 x sx from ⟨(HX34.out.1).upTo hu, hj⟩)
  clear hs hu HX34 HY34 HZ34 HN34 HL34 HE34 CA34 CP34 CB34 CC34 CQ34 NA34 HS34 HU34
  go_wp2_with fail
  refine (stStar N HS35.out sx SA35.out.2.1 (by omega)).mono ?_
  rintro e w36 ⟨ss, ns36, rfl, hs, hu, hj⟩
  have HS36 := Lib.hid hs
  have HU36 := Lib.hid (HU35.out.trans hu)
  have HX36 := Lib.hid (HX35.out.up HS35.out.canon.fine hu)
  have HY36 := Lib.hid (HY35.out.up HS35.out.canon.fine hu)
  have HZ36 := Lib.hid (HZ35.out.up HS35.out.canon.fine hu)
  have HN36 := Lib.hid (HN35.out.upTo HS35.out.canon.fine hu)
  have HL36 := Lib.hid (HL35.out.upTo HS35.out.canon.fine hu)
  have HE36 := Lib.hid (HE35.out.upTo HS35.out.canon.fine hu)
  have CA36 := Lib.hid (CA35.out.upTo HS35.out.canon.fine hu)
  have CP36 := Lib.hid (CP35.out.upTo HS35.out.canon.fine hu)
  have CB36 := Lib.hid (CB35.out.upTo HS35.out.canon.fine hu)
  have CC36 := Lib.hid (CC35.out.upTo HS35.out.canon.fine hu)
  have CQ36 := Lib.hid (CQ35.out.upTo HS35.out.canon.fine hu)
  have NA36 := Lib.hid (NA35.out.upTo HS35.out.canon.fine hu)
  have SA36 := Lib.hid (SA35.out.upTo HS35.out.canon.fine hu)
  have SB36 := Lib.hid (show StarI ns36 sx ss from ⟨(SA35.out.2.1).upTo hu, hj⟩)
  clear hs hu HX35 HY35 HZ35 HN35 HL35 HE35 CA35 CP35 CB35 CC35 CQ35 NA35 SA35 HS35 HU35
  go_wp2_with fail
  refine (stStar N HS36.out x HX36.out.1 (by omega)).mono ?_
  rintro e w37 ⟨sq, ns37, rfl, hs, hu, hj⟩
  obtain rfl : ss = sq := star_star hs.canon ((HX36.out.1).upTo hu) (SA36.out.upTo HS36.out.canon.fine hu).2 (SB36.out.upTo HS36.out.canon.fine hu).2 hj
  clear hj
  have HS37 := Lib.hid hs
  have HU37 := Lib.hid (HU36.out.trans hu)
  have HX37 := Lib.hid (HX36.out.up HS36.out.canon.fine hu)
  have HY37 := Lib.hid (HY36.out.up HS36.out.canon.fine hu)
  have HZ37 := Lib.hid (HZ36.out.up HS36.out.canon.fine hu)
  have HN37 := Lib.hid (HN36.out.upTo HS36.out.canon.fine hu)
  have HL37 := Lib.hid (HL36.out.upTo HS36.out.canon.fine hu)
  have HE37 := Lib.hid (HE36.out.upTo HS36.out.canon.fine hu)
  have CA37 := Lib.hid (CA36.out.upTo HS36.out.canon.fine hu)
  have CP37 := Lib.hid (CP36.out.upTo HS36.out.canon.fine hu)
  have CB37 := Lib.hid (CB36.out.upTo HS36.out.canon.fine hu)
  have CC37 := Lib.hid (CC36.out.upTo HS36.out.canon.fine hu)
  have CQ37 := Lib.hid (CQ36.out.upTo HS36.out.canon.fine hu)
  have NA37 := Lib.hid (NA36.out.upTo HS36.out.canon.fine hu)
  have SA37 := Lib.hid (SA36.out.upTo HS36.out.canon.fine hu)
  have SB37 := Lib.hid (SB36.out.upTo HS36.out.canon.fine hu)
  clear hs hu HX36 HY36 HZ36 HN36 HL36 HE36 CA36 CP36 CB36 CC36 CQ36 NA36 SA36 SB36 HS36 HU36
  go_wp2_with fail
  refine (stOrOld N HS37.out [] (join_of_none HS37.out.canon (Or.inl rfl) HN37.out.1 HN37.out.unit4) (list_nil _) (fun z hz => by cases hz) 0 (Nat.le_refl _) (by omega)).mono ?_
  rintro e w38 ⟨rfl, ns38, hs, hu⟩
  have HS38 := Lib.hid hs
  have HU38 := Lib.hid (HU37.out.trans hu)
  have HX38 := Lib.hid (HX37.out.up HS37.out.canon.fine hu)
  have HY38 := Lib.hid (HY37.out.up HS37.out.canon.fine hu)
  have HZ38 := Lib.hid (HZ37.out.up HS37.out.canon.fine hu)
  have HN38 := Lib.hid (HN37.out.upTo HS37.out.canon.fine hu)
  have HL38 := Lib.hid (HL37.out.upTo HS37.out.canon.fine hu)
  have HE38 := Lib.hid (HE37.out.upTo HS37.out.canon.fine hu)
  have CA38 := Lib.hid (CA37.out.upTo HS37.out.canon.fine hu)
  have CP38 := Lib.hid (CP37.out.upTo HS37.out.canon.fine hu)
  have CB38 := Lib.hid (CB37.out.upTo HS37.out.canon.fine hu)
  have CC38 := Lib.hid (CC37.out.upTo HS37.out.canon.fine hu)
  have CQ38 := Lib.hid (CQ37.out.upTo HS37.out.canon.fine hu)
  have NA38 := Lib.hid (NA37.out.upTo HS37.out.canon.fine hu)
  have SA38 := Lib.hid (SA37.out.upTo HS37.out.canon.fine hu)
  have SB38 := Lib.hid (SB37.out.upTo HS37.out.canon.fine hu)
  clear hs hu HX37 HY37 HZ37 HN37 HL37 HE37 CA37 CP37 CB37 CC37 CQ37 NA37 SA37 SB37 HS37 HU37
  go_wp2_with fail
  refine (stAndOld N HS38.out [] (join_of_none HS38.out.canon (Or.inr rfl) HL38.out.1 HL38.out.unit5) (list_nil _) (fun z hz => by cases hz) 0 (Nat.le_refl _) (by omega)).mono ?_
  rintro e w39 ⟨rfl, ns39, hs, hu⟩
  have HS39 := Lib.hid hs
  have HU39 := Lib.hid (HU38.out.trans hu)
  have HX39 := Lib.hid (HX38.out.up HS38.out.canon.fine hu)
  have HY39 := Lib.hid (HY38.out.up HS38.out.canon.fine hu)
  have HZ39 := Lib.hid (HZ38.out.up HS38.out.canon.fine hu)
  have HN39 := Lib.hid (HN38.out.upTo HS38.out.canon.fine hu)
  have HL39 := Lib.hid (HL38.out.upTo HS38.out.canon.fine hu)
  have HE39 := Lib.hid (HE38.out.upTo HS38.out.canon.fine hu)
  have CA39 := Lib.hid (CA38.out.upTo HS38.out.canon.fine hu)
  have CP39 := Lib.hid (CP38.out.upTo HS38.out.canon.fine hu)
  have CB39 := Lib.hid (CB38.out.upTo HS38.out.canon.fine hu)
  have CC39 := Lib.hid (CC38.out.upTo HS38.out.canon.fine hu)
  have CQ39 := Lib.hid (CQ38.out.upTo HS38.out.canon.fine hu)
  have NA39 := Lib.hid (NA38.out.upTo HS38.out.canon.fine hu)
  have SA39 := Lib.hid (SA38.out.upTo HS38.out.canon.fine hu)
  have SB39 := Lib.hid (SB38.out.upTo HS38.out.canon.fine hu)
  clear hs hu HX38 HY38 HZ38 HN38 HL38 HE38 CA38 CP38 CB38 CC38 CQ38 NA38 SA38 SB38 HS38 HU38
  go_wp2_with fail
  go_ret
  exact ⟨rfl, _, HS39.out.mono (by omega), HU39.out⟩
end

end Go.Proofs.Ytcghclikkeajfaa
