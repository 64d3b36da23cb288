/- What Expand answers, in two ways; the macros in another order. -/
import Derived.Test.YtkbfoelffeocmaaMacRot
import Derived.Test.YtkbfoelffeocmaaRefSame
namespace Go.Proofs.Ytkbfoelffeocmaa
open Go.RowKit
set_option linter.unusedSimpArgs false
set_option linter.unusedVariables false

def OutF (ms : List (ByteArray × ByteArray)) (w w' : World) (v : Value) (q : Int) : Prop :=
  (q = 0 ∧ ∃ F, Good ms ∧ Sol ms F ∧ (∀ G, Sol ms G → ∀ m ∈ ms, F m.1 = G m.1) ∧ DefsOut ms w F w' v) ∨ (q ≠ 0 ∧ ¬ (Good ms ∧ ∃ F, Sol ms F))
theorem TopPost.out {ms : List (ByteArray × ByteArray)} {w w' : World} {e : Ending} (h : TopPost ms w e w') : Below w.heap.size w w' ∧ ∃ (v : Value) (i p q : Int), e = .returned (.tuple #[v, .int .i64 i, .int .i64 p, .int .i64 q]) ∧ OutF ms w w' v q := by
  obtain ⟨hb, h⟩ := h
  refine ⟨hb, ?_⟩
  rcases h with ⟨h1, h2⟩ | ⟨hg, ⟨v, F, h1, h2, h3, _, h4⟩ | ⟨i, p, q, h1, _, h3, h4⟩⟩
  · exact ⟨_, _, _, _, h2, Or.inr ⟨h1, fun x => h1 ((early_good ms).2 x.1)⟩⟩
  · exact ⟨v, 0, 0, 0, h1, Or.inl ⟨rfl, F, hg, h2, h3, h4⟩⟩
  · exact ⟨_, _, _, _, h1, Or.inr ⟨by omega, fun x => by obtain ⟨F, hF⟩ := x.2; exact h4 F hF⟩⟩
theorem DefsOut.next {ms : List (ByteArray × ByteArray)} {w0 w w' : World} {F : ByteArray → Tr} {v : Value} (h : DefsOut ms w0 F w v) (hb : Below w.heap.size w w') : DefsOut ms w0 F w' v := by
  obtain ⟨g, B, ts, h1, h2, h3, h4, h5⟩ := h
  exact ⟨g, B, ts, h1, h2, Nat.lt_of_lt_of_le h3 hb.size, h4.next h3 hb, h5⟩
theorem OutF.next {ms : List (ByteArray × ByteArray)} {w0 w w' : World} {v : Value} {q : Int} (h : OutF ms w0 w v q) (hb : Below w.heap.size w w') : OutF ms w0 w' v q := by
  rcases h with ⟨h1, F, h2, h3, h4, h5⟩ | h
  · exact Or.inl ⟨h1, F, h2, h3, h4, h5.next hb⟩
  · exact Or.inr h
def rotM (ms : List (ByteArray × ByteArray)) (k : Nat) : List (ByteArray × ByteArray) := ms.drop k ++ ms.take k
theorem rot_mem (ms : List (ByteArray × ByteArray)) (k : Nat) (m : ByteArray × ByteArray) : m ∈ ms ↔ m ∈ rotM ms k := by
  unfold rotM
  rw [List.mem_append]
  conv => lhs; rw [← List.take_append_drop k ms, List.mem_append]
  exact Or.comm
theorem rot_length (ms : List (ByteArray × ByteArray)) (k : Nat) : (rotM ms k).length = ms.length := by
  unfold rotM
  rw [List.length_append, List.length_drop, List.length_take]; omega
theorem rot_nodup {ms : List (ByteArray × ByteArray)} (k : Nat) : (ms.map (·.1)).Nodup ↔ ((rotM ms k).map (·.1)).Nodup := by
  have hp : (rotM ms k).Perm ms := by
    unfold rotM
    exact List.perm_append_comm.trans (by rw [List.take_append_drop])
  exact (hp.map _).nodup_iff.symm
theorem rot_good {ms : List (ByteArray × ByteArray)} (k : Nat) : Good ms ↔ Good (rotM ms k) :=
  ⟨fun h => h.perm (rot_mem ms k) (rot_length ms k) ((rot_nodup k).1 h.nodup), fun h => h.perm (fun m => (rot_mem ms k m).symm) (rot_length ms k).symm ((rot_nodup k).2 h.nodup)⟩
theorem rot_at {ms : List (ByteArray × ByteArray)} {k i : Nat} (hk : k < ms.length) (hi : i < ms.length) : atM (rotM ms k) ((i + ms.length - k) % ms.length) = atM ms i := by
  unfold atM rotM
  by_cases h : i < k
  · have e : (i + ms.length - k) % ms.length = i + ms.length - k := Nat.mod_eq_of_lt (by omega)
    rw [e, List.getElem?_append_right (by rw [List.length_drop]; omega), List.length_drop, show i + ms.length - k - (ms.length - k) = i by omega, List.getElem?_take_of_lt h]
  · have e : (i + ms.length - k) % ms.length = i - k := by
      rw [show i + ms.length - k = (i - k) + ms.length by omega, Nat.add_mod_right, Nat.mod_eq_of_lt (by omega)]
    rw [e, List.getElem?_append_left (by rw [List.length_drop]; omega), List.getElem?_drop, show k + (i - k) = i by omega]
theorem rot_short {ms : List (ByteArray × ByteArray)} (k : Nat) (h1 : ShortM ms) (h2 : SmallM ms) : ShortM (rotM ms k) ∧ SmallM (rotM ms k) :=
  ⟨fun j hj => by
    obtain ⟨i, hi, e⟩ := mem_atM ((rot_mem ms k _).2 (atM_mem hj))
    rw [← e]; exact h1 i hi,
   fun j hj => by
    obtain ⟨i, hi, e⟩ := mem_atM ((rot_mem ms k _).2 (atM_mem hj))
    rw [← e]; exact h2 i hi⟩
theorem MacsAt.drop {w : World} {b off n c : Nat} {ms : List (ByteArray × ByteArray)} (h : MacsAt w (.slice (some ⟨b, off, none⟩) n c) ms) (k c' : Nat) (hk : k < ms.length) : MacsAt w (.slice (some ⟨b, off + k * 2, none⟩) (ms.length - k) c') (ms.drop k) := by
  obtain ⟨A', cap, h1, h2, h3⟩ := h
  injection h1 with e1 e2 e3
  have hl : (ms.drop k).length = ms.length - k := List.length_drop
  obtain ⟨b', off', e, hlt, hr⟩ := h3 (by omega)
  rw [← e1] at e
  injection e with e
  injection e with q1 q2
  subst q1; subst q2
  refine ⟨_, c', by rw [hl], by omega, fun _ => ⟨b, off + k * 2, rfl, hlt, fun j hj => ?_⟩⟩
  have := hr (k + j) (by omega)
  have ha : atM (ms.drop k) j = atM ms (k + j) := by unfold atM; rw [List.getElem?_drop]
  rw [ha, show off + k * 2 + j * 2 = off + (k + j) * 2 by omega]
  exact this
theorem MacRow.out {w : World} {base : Nat} {v : Value} {l : List (ByteArray × ByteArray)} (h : MacRow w base v l) (h0 : 0 < l.length) (hn : l.length ≤ 30) : ∃ g cap, v = .slice (some ⟨g, 0, none⟩) l.length cap ∧ MacsAt w (.slice (some ⟨g, 0, none⟩) l.length cap) l ∧ l.length ≤ cap := by
  obtain ⟨g, cap, rfl, _, hlt⟩ := World.ownsRow.form h h0
  refine ⟨g, cap, rfl, MacRow.macs h rfl (by omega) hlt, ?_⟩
  obtain ⟨_, h6 | ⟨g', cap', cur, e, _, _, hc1, _⟩⟩ := h
  · exact absurd h6.1 (by intro q; cases q)
  · injection e with _ _ e3
    omega
theorem run_slice0m (w : World) : (Instr.buildSlice 22 0 #[]).run Try.prog w = .ok (.slice (some ⟨w.heap.size, 0, none⟩) 0 0) (w.alloc (.cells #[] 40)) := by kernel_rfl
section
variable {ops : Array Oper} {o : Oper} {a : Act} {w : World} {K : Act → World → Prop} {Q : Exit → Act → World → Prop} {E : Prop}
theorem step_value2 {P : Program} (hgd : o.guard = none) (v : Value) (w' : World) (hr : (execOp a.eval o).run P w = .ok (.value v) w') (h : K (a.put o.dst v) w') : if Region.wanted o (yielded ops a.tmps) = true then Oper.wp P o a w K Q else E := by
  have hw : Region.wanted o (yielded ops a.tmps) = true := by simp [Region.wanted, hgd]
  rw [if_pos hw]
  unfold Oper.wp
  rw [hr]
  exact h
theorem step_append_any2 {P : Program} (hgd : o.guard = none) (s x : Operand) (t : TypeId) (ho : o.op = .call { callee := .builtin .append, args := #[s, x], argTypes := #[t, t] }) (v1 v2 : Value) (hs : a.eval s = v1) (hx : a.eval x = v2) {R : Value → World → Prop}
    (hrun : ∃ v w', (Builtin.append_ #[t, t] o.type #[v1, v2]).run P w = .ok v w' ∧ R v w') (h : ∀ v w', R v w' → K (a.put o.dst v) w') : if Region.wanted o (yielded ops a.tmps) = true then Oper.wp P o a w K Q else E := by
  obtain ⟨v, w', hr, hR⟩ := hrun
  refine step_value2 hgd v w' ?_ (h v w' hR)
  unfold execOp
  simp only [ho, resolve, invoke, builtin, Sem.run_bind, Sem.run_pure, Result.andThen_ok, List.map_toArray, List.map_cons, List.map_nil, hs, hx, hr]
theorem step_slice0m (hgd : o.guard = none) (ho : o.op = .buildSlice 22 0 #[]) (h : ∀ g w', At w' g 40 #[] → Below w.heap.size w w' → w.heap.size ≤ g → K (a.put o.dst (.slice (some ⟨g, 0, none⟩) 0 0)) w') : if Region.wanted o (yielded ops a.tmps) = true then Oper.wp Try.prog o a w K Q else E := by
  refine step_value2 hgd (.slice (some ⟨w.heap.size, 0, none⟩) 0 0) (w.alloc (.cells #[] 40)) ?_ (h _ _ (At.new _ _ _) ((Below.refl _ _).alloc (Nat.le_refl _) _) (Nat.le_refl _))
  unfold execOp
  simp only [ho, List.map_toArray, List.map_nil, Sem.run_bind, run_slice0m, Result.andThen_ok, Sem.run_pure]
end
theorem sol_deep {ms : List (ByteArray × ByteArray)} {F : ByteArray → Tr} (h : Sol ms F) {m : ByteArray × ByteArray} (hm : m ∈ ms) {t : Tr} (ht : t.strip 40 = F m.1) : deepS 40 40 t ≤ 40 := by
  obtain ⟨⟨_, hf⟩, hv⟩ := h m hm
  have := isFormed_deep hf.lv40.2
  rw [deepS_congr 40 40 t (pS m.2 (dsOf ms F)).1 (ht.trans hv)]
  exact this
theorem same_of {w : World} {a b : Tr} (ha : Tr.In w 40 a) (he : a.strip 40 = b.strip 40) (hd : deepS 40 40 a ≤ 40) : sameS 40 41 a b = true := sameS_strip 40 40 a b (by omega) he (by omega) hd w ha

end Go.Proofs.Ytkbfoelffeocmaa
