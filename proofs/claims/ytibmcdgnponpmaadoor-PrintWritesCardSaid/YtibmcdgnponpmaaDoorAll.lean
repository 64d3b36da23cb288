/- What set.All answers: the list of a set's bytes, rising. -/
import Derived.Test.YtibmcdgnponpmaaDoorProg
import Derived.Test.YtibmcdgnponpmaaDoorCount
import Derived.Test.YtibmcdgnponpmaaDoorOwn
namespace Go.Proofs.YtibmcdgnponpmaaDoor
open Go.RowKit

theorem info_byte : (Tryd.prog.info? 5).map (fun i => (i.zero, i.size, i.bytes)) = some (some (.int .u8 0), 1, 1) := by kernel_rfl
def YieldsB (w : World) (l : List Nat) (e : Ending) (w' : World) : Prop := ∃ v, e = .returned v ∧ IntRow w' w.heap.size 5 .u8 v l ∧ Below w.heap.size w w'
theorem idx_word (s : St) (k : Nat) (hk : k < 4) (w : World) : (Instr.index 24 (.agg #[.int .u64 s.w0, .int .u64 s.w1, .int .u64 s.w2, .int .u64 s.w3]) (.int .i64 k)).run Tryd.prog w = .ok (.int .u64 (s.word k : Nat)) w := by
  have h : k = 0 ∨ k = 1 ∨ k = 2 ∨ k = 3 := by omega
  rcases h with rfl | rfl | rfl | rfl
  · exact idx0 _ _ _ _ w
  · exact idx1 _ _ _ _ w
  · exact idx2 _ _ _ _ w
  · exact idx3 _ _ _ _ w
def clearLow (x : Nat) : Nat := x &&& (x - 1)
theorem clear_bits (x : Nat) (h : U64 x) (h0 : x ≠ 0) : bits .and .u64 (x : Int) ((x : Int) - 1) = ((clearLow x : Nat) : Int) := by
  rw [show ((x : Int) - 1) = ((x - 1 : Nat) : Int) from by omega]
  exact bits_and _ _ h (Nat.lt_of_le_of_lt (Nat.sub_le _ _) h)
theorem clear_wrap (x : Nat) (h : U64 x) (h0 : x ≠ 0) : IntKind.u64.wrap ((x : Int) - 1) = (x : Int) - 1 := by
  unfold U64 at h
  rw [IntKind.wrap_u64]
  omega
theorem clear_u64 (x : Nat) (h : U64 x) : U64 (clearLow x) := less_u64 x h
theorem ws_step' (x : Nat) (h0 : x ≠ 0) (h : U64 x) : ws x = Lib.ctz 64 x :: ws (clearLow x) := (ws_step x h0 h).2
theorem St.listTo_length (s : St) (k : Nat) : (s.listTo k).length ≤ 64 * k := by
  have := List.length_filter_le (fun x => s.has x) (List.range (64 * k))
  simpa [St.listTo] using this
/-- What has been laid out of word k, and what is left of it. -/
def Part (s : St) (k x : Nat) (l : List Nat) : Prop := ∃ d, l = s.listTo k ++ d.map (64 * k + ·) ∧ ws (s.word k) = d ++ ws x
theorem Part.start (s : St) (k : Nat) : Part s k (s.word k) (s.listTo k) := ⟨[], by simp, by simp⟩
theorem Part.next {s : St} {k x : Nat} {l : List Nat} (h : Part s k x l) (h0 : x ≠ 0) (hx : U64 x) : Part s k (clearLow x) (l ++ [64 * k + Lib.ctz 64 x]) := by
  obtain ⟨d, rfl, hd⟩ := h
  refine ⟨d ++ [Lib.ctz 64 x], by simp, ?_⟩
  rw [hd, ws_step' x h0 hx]
  simp
theorem Part.done {s : St} {k : Nat} {l : List Nat} (h : Part s k 0 l) : l = s.listTo (k + 1) := by
  obtain ⟨d, rfl, hd⟩ := h
  rw [ws_zero, List.append_nil] at hd
  rw [St.listTo_succ, hd]
theorem Part.len {s : St} {k x : Nat} {l : List Nat} (h : Part s k x l) : l.length ≤ 64 * k + 64 := by
  obtain ⟨d, rfl, hd⟩ := h
  have h1 := s.listTo_length k
  have h2 := ws_length (s.word k)
  rw [hd] at h2
  simp at h2 ⊢
  omega

set_option maxRecDepth 100000 in
set_option maxHeartbeats 4000000 in
theorem setAll (s : St) (hs : s.Ok) (w : World) (hT : Tab w) :
    Calls Tryd.prog 45 #[.agg #[.int .u64 s.w0, .int .u64 s.w1, .int .u64 s.w2, .int .u64 s.w3]] w (YieldsB w s.list) := by
  obtain ⟨i0, hi0, hz0, hz1, hz2⟩ := info_parts info_byte
  have hll := s.listTo_length 4
  rw [St.listTo_four] at hll
  obtain ⟨n, hn⟩ : ∃ n : Nat, n = s.list.length := ⟨_, rfl⟩
  have hc := Lib.hid (fun W => setCount s hs W)
  rw [← hn] at hc hll
  clear hn
  go_enter Tryd.func45, Tryd.ntmps45
  go_wp2_with fail
  refine (hc.out _).mono ?_
  rintro e w1 ⟨rfl, hb1⟩
  have hA := (SetAt.new w 24 s).next hb1
  have hB : Below w.heap.size w w1 := ((Below.refl _ _).alloc (Nat.le_refl _) _).trans (hb1.mono (by simp))
  have hlA := hA.lt
  clear hb1 hc
  go_wp2_with (at_make; refine wpList_make_own _ rfl _ _ 38 rfl (w.heap.size + 1) 5 i0 (.int .u8 0) 1 Tryd.underlying38 hi0 hz0 hz1 .i64 .i64 _ n rfl rfl (by omega) (by rw [hz2]; omega) (by unfold maxLen; omega) (by omega) ?_; intro w2 hown2 hgrow2; have hA2 := hA.grown hgrow2 (fun k hk => by cases hk); obtain ⟨c0, c1, c2, c3⟩ := hA2.cells)
  have hB2 := hB.grown hgrow2 hB.size (fun k hk => by cases hk)
  have hR2 : IntRow w2 (w.heap.size + 1) 5 .u8 (.slice (some ⟨w1.heap.size, 0, none⟩) 0 n) [] := hown2
  clear hown2 hgrow2 hA hA2 c0 c1 c2 c3 hB hlA
  have HT := Lib.hid hT
  clear hT
  go_loopw [3, 10] (fun v i wr => ∃ k : Nat, k ≤ 4 ∧ i = .int .i64 k ∧ IntRow wr (w.heap.size + 1) 5 .u8 v (s.listTo k) ∧ Below w.heap.size w wr) (fun _ i _ => 4 - (intOf i).toNat)
  case atStart => exact ⟨0, by omega, rfl, hR2, hB2⟩
  case round =>
    clear hR2 hB2
    obtain ⟨k, hk, rfl, hR, hB⟩ := hrel
    by_cases hlt : k < 4
    · have hidx := idx_word s k hlt
      have hdec : decide ((k : Int) < 4) = true := by simp; omega
      have hsk := s.listTo_length k
      have HP := Lib.hid (Part.start s k)
      have HU := Lib.hid (hs.word k)
      go_wp2_with fail
      go_loopw [3, 5] (fun v wd wr => ∃ (x : Nat) (l : List Nat), U64 x ∧ wd = .int .u64 x ∧ Part s k x l ∧ IntRow wr (w.heap.size + 1) 5 .u8 v l ∧ Below w.heap.size w wr) (fun _ wd _ => (ws (intOf wd).toNat).length)
      case atStart => exact ⟨s.word k, s.listTo k, HU.out, rfl, HP.out, hR, hB⟩
      case round =>
        clear hR hB
        obtain ⟨x, l, hx, rfl, hp, hR, hB⟩ := hrel
        have hpl := hp.len
        have HX := Lib.hid hx
        by_cases h0 : x = 0
        · have HD := Lib.hid (show l = s.listTo (k + 1) by subst h0; exact hp.done)
          obtain ⟨t0, u0⟩ := zero_tests _ h0
          clear hp h0
          go_wp2_with fail
          exact ⟨⟨k + 1, by omega, by go_num, by rw [← HD.out]; exact hR, hB⟩, by simp [intOf]; omega⟩
        · have HN := Lib.hid (hp.next h0 hx)
          obtain ⟨t0, u0⟩ := nonzero_tests _ h0
          have e1 := clear_bits x hx h0
          have e2 := clear_wrap x hx h0
          have HW := Lib.hid (ws_step' x h0 hx)
          have hcz := (ws_step x h0 hx).1
          have HC := Lib.hid (fun W hW => trailing x hx h0 W hW)
          obtain ⟨z, hz⟩ : ∃ z : Nat, z = Lib.ctz 64 x := ⟨_, rfl⟩
          rw [← hz] at HN HC hcz
          clear hz hp h0 hx
          have hw8 : IntKind.u8.wrap ((k : Int) * 64 + (z : Int)) = ((64 * k + z : Nat) : Int) := by rw [IntKind.wrap_u8']; omega
          have hBs := hB.size
          go_wp2_with fail
          refine (HC.out _ (HT.out.below hB)).mono ?_
          rintro e w3 ⟨rfl, rfl⟩
          go_wp2_with (first
            | (at_builtin
               refine wpList_append_own _ rfl _ _ _ rfl (w.heap.size + 1) 5 i0 _ 1 1 Tryd.underlying38 hi0 hz0 hz1 hz2 rfl (by omega) u3 _ _ rfl (hR.alloc _) ⟨_, 0, none⟩ 1 1 [.int .u8 ((64 * k + z : Nat) : Int)] rfl rfl ?c1 ?c2 ?c3 ?c4 ?c5 ?_
               case c1 => exact (cell_one_new _ _ _)
               case c2 => simp [Value.oneCell']
               case c3 => unfold maxLen; omega
               case c4 => omega
               case c5 => simp; omega
               intro v' w4 hown4 hg4 _))
          go_roundw
          case rel =>
            have hpush := IntRow.push hown4
            have hB4 := (hB.alloc hBs _).grown hg4 (by simp; omega) (fun g hg => by have := hR.low g hg; omega)
            exact ⟨clearLow x, _, clear_u64 x HX.out, rfl, HN.out, hpush, hB4⟩
          case measure => simp [intOf]; rw [HW.out]; simp
    · have hk4 : k = 4 := by omega
      subst hk4
      rw [St.listTo_four] at hR
      go_wp2_with fail
      go_ret
      exact ⟨_, rfl, hR.mono (by omega), hB⟩

end Go.Proofs.YtibmcdgnponpmaaDoor
