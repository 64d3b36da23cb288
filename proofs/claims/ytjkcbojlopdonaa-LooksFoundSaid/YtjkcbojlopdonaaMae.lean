/- Joined: OpenTr, SetEq, RefHas. -/
import Derived.Test.YtjkcbojlopdonaaProg
import Derived.Test.YtjkcbojlopdonaaWords
import Derived.Test.YtjkcbojlopdonaaMad
import Derived.Test.YtjkcbojlopdonaaTr
import Derived.Deep.Slices
import Derived.OpenShut
/- A pattern that is handed in: as data and as cells. -/
namespace Go.Proofs.Ytjkcbojlopdonaa
open Go.ChangeShapes Go.WideShapes Go.ChangeAt Go.RowKit

instance : Inhabited Tr := ⟨.node 0 ⟨0, 0, 0, 0⟩ none 0 0 [] 0 0 false⟩
theorem Tr.In.le {w : World} {k : Nat} {t : Tr} (h : Tr.In w k t) : ∀ (j : Nat), Tr.In w (k + j) t
  | 0 => h
  | j + 1 => Tr.In.up _ _ (Tr.In.le h j)
theorem range_of_cells {w : World} {base b off n : Nat} {cs : List Value} (h : w.cells? base ⟨b, off, none⟩ n = some cs) : w.rangeAt b off cs := by
  unfold World.cells? at h
  split at h
  · intro j v hv
    have hj := mapM_some_get h j j
    have hl : j < cs.length := (List.getElem?_eq_some_iff.1 hv).1
    have hn : cs.length = n := by simpa using mapM_some_length h
    have := hj (by rw [List.getElem?_eq_getElem (by rw [List.length_range]; omega), List.getElem_range])
    rw [add_plain'] at this
    rw [this]; exact hv
  · cases h
theorem map_range_at {α : Type} (f : Nat → α) (n j : Nat) (h : j < ((List.range n).map f).length) : ((List.range n).map f)[j]'h = f j := by simp
theorem i64_of_wf {n : Int} (h : (Lit.int .i64 n).wf = true) : I64 n := by
  have := bounds_i64 h
  unfold I64; omega
section
variable {H : Type} {enc : TypeId × Value → H} {P : Program} {w : World} {base : Nat} {spare : Nat → Bool} {held : Bool}
end

end Go.Proofs.Ytjkcbojlopdonaa

/- '==' on two sets. -/
namespace Go.Proofs.Ytjkcbojlopdonaa
open Go.RowKit

theorem setEq (w : World) (s t : St) (v : Bool) (h : s.eqb t = v) :
    (Op.equalIn 10000 33 (.agg #[.int .u64 s.w0, .int .u64 s.w1, .int .u64 s.w2, .int .u64 s.w3]) (.agg #[.int .u64 t.w0, .int .u64 t.w1, .int .u64 t.w2, .int .u64 t.w3])).run Try.prog w = .ok v w := by
  rw [← h]
  exact run_set_eq (d := 9998) Try.underlying33 (by kernel_rfl) Try.underlying31 (by kernel_rfl) w s t

end Go.Proofs.Ytjkcbojlopdonaa

/- What the reference's Has answers, of any set and byte. -/
namespace Go.Proofs.Ytjkcbojlopdonaa
open Go.RowKit

theorem ret_bool {a b : Bool} (h : a = b) : Ending.returned (.bool a) = .returned (.bool b) := by rw [h]
end Go.Proofs.Ytjkcbojlopdonaa
