/- The law's awake; what no definitions are; where all goes well a pattern is answered. -/
import Derived.Test.YtibmcdgnponpmaaMe
import Derived.Test.YtibmcdgnponpmaaRefSame
import Derived.Test.YtibmcdgnponpmaaMb
import Derived.Deep.QuietTactic
import Derived.BigQuiet
namespace Go.Proofs.Ytibmcdgnponpmaa
open Go.RowKit
set_option linter.unusedSimpArgs false
set_option linter.unusedVariables false

theorem defs_nil (w : World) : DefsIn w (.slice none 0 0) [] := ⟨none, 0, [], rfl, Nat.zero_le _, rfl, fun h => absurd h (Nat.lt_irrefl _), fun j h => absurd h (Nat.not_lt_zero _)⟩
def aT : ByteArray := { data := #[97] }
theorem words_a : wordsS aT = ([(setW (St.zero.put 97), 0)], 0, 0) := by kernel_rfl
theorem read_a (ds : List (ByteArray × Tr)) : pS aT ds = (leafT 2 (St.zero.put 97) false, ⟨[], 0, 0, 0⟩) := by
  rw [pS_of words_a]
  simp [wholeS, orS, betweenS, restS, catS, nots, notS, postS, postsS, atomS, lookS, peekS, nextS, joinS, notBegins, timesW, wd0, setW]
theorem formed_a : FormedT (leafT 2 (St.zero.put 97) false) := ⟨1, fun p hp => absurd hp List.not_mem_nil, by kernel_rfl⟩
theorem put97_ok : (St.zero.put 97).Ok := by refine ⟨?_, ?_, ?_, ?_⟩ <;> (show U64 _; unfold U64; decide)
/-- Where all goes well, a pattern is answered. -/
theorem ParsePost.good {s : ByteArray} {ds : List (ByteArray × Tr)} {w w' : World} {e : Ending} {T : Tr} (h : ParsePost s ds w e w') (hw : (wordsS s).2.2 = 0) (hr : (pS s ds).1 = T) (hf : (pS s ds).2.flt = 0) (hF : FormedT T) :
    ∃ t : Tr, e = .returned (.tuple #[.agg t.cs.toArray, .int .i64 0, .int .i64 0]) ∧ Below w.heap.size w w' ∧ Tr.In w' 40 t ∧ Tr.From w.heap.size 40 t ∧ t.strip 40 = T.strip 40 := by
  obtain ⟨t, p, q, he, hb, h⟩ := h
  rcases h with ⟨_, _, h⟩ | ⟨rfl, rfl, _, _, _, h1, h2, h3⟩
  · rcases h with h | h | h
    · exact absurd hw h.1
    · exact absurd hf h.2.1
    · exact absurd (hr ▸ hF) h.2.2.1
  · exact ⟨t, he, hb, h1, h2, by rw [h3, hr]⟩

set_option maxRecDepth 100000 in
set_option maxHeartbeats 4000000 in
theorem lawAwake5 (w : World) : Calls Try.prog 4 #[] w fun e w' => e = .returned (.bool true) ∧ Below w.heap.size w w' := by
  have hP := fun W => tParse aT (by decide) none 0 0 [] W (defs_nil W) (fun hf k => Nat.le_trans (pS_mass (W := 2) (fun d hd => absurd hd List.not_mem_nil) (Nat.le_refl _) hf k) (by decide))
  have HP := Lib.hid hP
  clear hP
  go_enter Try.func4, Try.ntmps4
  go_wp2_with fail
  refine (HP.out w).mono ?_
  rintro e w1 hpp
  obtain ⟨t, rfl, hb, hin, hfr, hst⟩ := hpp.good (by rw [words_a]) (by rw [read_a]) (by rw [read_a]) formed_a
  have hkd : t.kind = 2 := by
    obtain ⟨k', hk'⟩ : ∃ k', (40 : Nat) = k' + 1 := ⟨39, rfl⟩
    rw [hk'] at hst
    exact (strip_parts hst).1
  have hone := Tr.one t
  have HX := Lib.hid (boxW_at w1 t)
  have HB := Lib.hid (hb.trans ((boxW_next w1 t).mono hb.size))
  have c0 := HX.out.cell 0
  rw [show t.cs.toArray[0]? = some (.int .i64 t.kind) from rfl, hkd] at c0
  clear hpp hb hin hfr hst hkd
  go_wp2_with (first
    | (with_reducible show wpList _ _ _ ({ dst := none, op := .store _ _ _, type := _, pos := _, after := _, guard := _ } :: _) _ _
       refine wpList_store_row rfl 28 _ _ rfl w1.heap.size t.cs.toArray rfl rfl 28 Tr.blank.cs.toArray (At.new _ _ _) (by kernel_rfl) rfl hone ?_
       first | change wpList _ _ _ _ _ (boxW w1 t) | change Exit.then _ _ _ _ (boxW w1 t))
    | fail)
  go_ret
  exact ⟨rfl, HB.out⟩

end Go.Proofs.Ytibmcdgnponpmaa
