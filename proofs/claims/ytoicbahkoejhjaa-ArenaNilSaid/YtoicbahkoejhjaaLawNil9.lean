/- bolterlaw09.ArenaNil, by what an arena, and a nil one, does. -/
import Derived.Test.YtoicbahkoejhjaaArenaAwake
import Derived.Test.YtoicbahkoejhjaaNodeRow
namespace Go.Proofs.Ytoicbahkoejhjaa
open Go.RowKit
set_option linter.unusedSimpArgs false
set_option linter.unusedVariables false
section
variable {AA : World → Value → List Nd → (Nat → Prop) → Prop}

set_option maxRecDepth 100000 in
set_option maxHeartbeats 8000000 in
theorem lawNil9 (S : ArenaSpec AA) (Z : NilSpec) (x : Nd) (id : Int) (w : World) (hx : NdFit x) (hid : I64 id) :
    Calls Try.prog 6 #[.agg x.cs.toArray, .int .i64 id] w fun e w' => e = .returned (.bool true) ∧ Below w.heap.size w w' := by
  have HX := Lib.hid hx
  have HI := Lib.hid hid
  have hA : At (w.alloc (Obj.cells x.cs.toArray 34)) w.heap.size 34 x.cs.toArray := At.new _ _ _
  have hB : Below w.heap.size w (w.alloc (Obj.cells x.cs.toArray 34)) := (Below.refl _ _).alloc (Nat.le_refl _) _
  clear hx
  go_enter Try.func6, Try.ntmps6
  go_wp2_with fail
  refine (lawAwake9 S _).mono ?_
  rintro e w1 ⟨rfl, hb1⟩
  have HA1 := Lib.hid (hA.step hb1 rfl)
  have HB1 := Lib.hid (below_step hB hb1 rfl rfl rfl rfl)
  clear hb1 hA hB
  go_wp2_with (first
    | (with_reducible show wpList _ _ _ ({ dst := some 14, op := .load _ _, type := _, pos := _, after := _, guard := _ } :: _) _ _
       refine wpList_load_row rfl 34 _ rfl w.heap.size rfl 34 x.cs.toArray (0, 0) _ HA1.out Try.underlying34 rfl (by rw [List.size_toArray, Nd.cs_length]; kernel_rfl) ?_)
    | fail)
  refine (Z.put w1 x HX.out).mono ?_
  rintro e w2 ⟨rfl, hb2⟩
  have HB2 := Lib.hid (HB1.out.trans (hb2.mono HB1.out.size))
  clear hb2
  go_wp2_with fail
  refine (Z.node w2 id HI.out).mono ?_
  rintro e w3 ⟨y, rfl, hb3⟩
  have HB3 := Lib.hid (HB2.out.trans (hb3.mono HB2.out.size))
  have hbx := boxN_next w3 y
  have HB4 := Lib.hid (HB3.out.trans (hbx.mono HB3.out.size))
  have hone := Nd.one y
  clear hb3 hbx
  go_wp2_with (first
    | (with_reducible show wpList _ _ _ ({ dst := none, op := .store _ _ _, type := _, pos := _, after := _, guard := _ } :: _) _ _
       refine wpList_store_row rfl 34 _ _ rfl w3.heap.size y.cs.toArray rfl rfl 34 Nd.zero.cs.toArray (At.new _ _ _) (by kernel_rfl) rfl hone ?_
       first | change wpList _ _ _ _ _ (boxN w3 y) | change Exit.then _ _ _ _ (boxN w3 y))
    | fail)
  refine (Z.len _).mono ?_
  rintro e w5 ⟨rfl, hb5⟩
  have HB5 := Lib.hid (HB4.out.trans (hb5.mono HB4.out.size))
  clear hb5
  go_wp2_with fail
  refine (Z.turn _ id HI.out).mono ?_
  rintro e w6 ⟨rfl, hb6⟩
  have HB6 := Lib.hid (HB5.out.trans (hb6.mono HB5.out.size))
  clear hb6
  go_wp2_with fail
  refine (Z.sets _ id HI.out).mono ?_
  rintro e w7 ⟨A7, c7, rfl, hb7⟩
  have HB7 := Lib.hid (HB6.out.trans (hb7.mono HB6.out.size))
  clear hb7
  go_wp2_with fail
  go_ret
  exact ⟨rfl, HB7.out⟩
end

end Go.Proofs.Ytoicbahkoejhjaa
