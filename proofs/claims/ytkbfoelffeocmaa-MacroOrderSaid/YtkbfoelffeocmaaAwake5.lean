/- The law's awake; what no definitions are; where all goes well a pattern is answered. -/
import Derived.Test.YtkbfoelffeocmaaMg
import Derived.Test.YtkbfoelffeocmaaRefSame
import Derived.Test.YtkbfoelffeocmaaMb
import Derived.Deep.QuietTactic
import Derived.BigQuiet
namespace Go.Proofs.Ytkbfoelffeocmaa
open Go.RowKit
set_option linter.unusedSimpArgs false
set_option linter.unusedVariables false

theorem defs_nil (w : World) : DefsIn w (.slice none 0 0) [] := ⟨none, 0, [], rfl, Nat.zero_le _, rfl, fun h => absurd h (Nat.lt_irrefl _), fun j h => absurd h (Nat.not_lt_zero _)⟩
def aT : ByteArray := { data := #[97] }
theorem words_a : wordsS aT = ([(setW (St.zero.put 97), 0)], 0, 0) := by kernel_rfl
theorem read_a (ds : List (ByteArray × Tr)) : pS aT ds = (leafT 2 (St.zero.put 97) false, ⟨[], 0, 0, 0⟩) := by
  rw [pS_of words_a]
  simp [wholeS, orS, betweenS, restS, catS, nots, notS, postS, postsS, atomS, lookS, peekS, nextS, joinS, notBegins, timesW, wd0, setW]
theorem formed_a : FormedT (leafT 2 (St.zero.put 97) false) := ⟨1, fun p hp => absurd hp List.not_mem_nil, by kernel_rfl⟩
theorem put97_ok : (St.zero.put 97).Ok := by refine ⟨?_, ?_, ?_, ?_⟩ <;> (show U64 _; unfold U64; decide)
/-- Where all goes well, a pattern is answered. -/
theorem ParsePost.good {s : ByteArray} {ds : List (ByteArray × Tr)} {w w' : World} {e : Ending} {T : Tr} (h : ParsePost s ds w e w') (hw : (wordsS s).2.2 = 0) (hr : (pS s ds).1 = T) (hf : (pS s ds).2.flt = 0) (hF : FormedT T) :
    ∃ t : Tr, e = .returned (.tuple #[.agg t.cs.toArray, .int .i64 0, .int .i64 0]) ∧ Below w.heap.size w w' ∧ Tr.In w' 40 t ∧ Tr.From w.heap.size 40 t ∧ t.strip 40 = T.strip 40 := by
  obtain ⟨t, p, q, he, hb, h⟩ := h
  rcases h with ⟨_, _, h⟩ | ⟨rfl, rfl, _, _, _, h1, h2, h3⟩
  · rcases h with h | h | h
    · exact absurd hw h.1
    · exact absurd hf h.2.1
    · exact absurd (hr ▸ hF) h.2.2.1
  · exact ⟨t, he, hb, h1.1, h2, by rw [h3, hr]⟩

end Go.Proofs.Ytkbfoelffeocmaa
