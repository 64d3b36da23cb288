/- What the program's Words answers. -/
import Derived.Test.YtkbfoelffeocmaaWordsAt
namespace Go.Proofs.Ytkbfoelffeocmaa
open Go.RowKit
set_option linter.unusedSimpArgs false
set_option linter.unusedVariables false

theorem lexWordV (t : ByteArray) (hs : t.size ≤ 20000) (h0 : 0 < t.size) (x : Wd) (n : Nat) (h : wordP t = (x, (n : Int))) (w : World) :
    Calls Try.prog 22 #[.string t] w fun e w' => e = .returned (.tuple #[.agg #[.int .i64 x.kind, .int .i64 0, .int .u64 x.set.w0, .int .u64 x.set.w1, .int .u64 x.set.w2, .int .u64 x.set.w3, .string x.name, .int .i64 x.lo, .int .i64 x.hi], .int .i64 n]) ∧ Below w.heap.size w w' := by
  have := lexWord t hs h0 w
  rw [h] at this
  exact this

set_option maxRecDepth 100000 in
set_option maxHeartbeats 8000000 in
theorem lexWords (s : ByteArray) (hs : s.size ≤ 20000) (w : World) : Calls Try.prog 14 #[.string s] w (WordsRes s w) := by
  by_cases hbig : 10000 < s.size
  · have HV : Hid (wordsS s = ([], 0, 3)) := Lib.hid (by unfold wordsS; rw [if_pos hbig])
    have d0 : decide ((10000 : Int) < (s.size : Int)) = true := txt_t (by omega)
    go_enter Try.func14, Try.ntmps14
    go_wp2_with fail
    exact bodyPost_ret (v := .tuple #[.slice none 0 0, .int .i64 0, .int .i64 3]) (by simp [results, Try.results14, go_sem]) rfl ⟨_, _, _, _, HV.out, rfl, Wds.nil _ _, Below.refl _ _⟩
  · have d0 : decide ((10000 : Int) < (s.size : Int)) = false := txt_f (by omega)
    obtain ⟨R, hR⟩ : ∃ R, wordsFrom s (s.size + 1) 0 = R := ⟨_, rfl⟩
    have HV1 : ∀ l (i : Nat), R = (l, (i : Int)) → wordsS s = ([], (i : Int), 2) := fun l i h => by unfold wordsS; rw [if_neg hbig, hR, h, if_pos (by dsimp only; omega)]
    have HV2 : ∀ l, R = (l, -1) → wordsS s = (l, 0, 0) := fun l h => by unfold wordsS; rw [if_neg hbig, hR, h, if_neg (by dsimp only; omega)]
    have HA1 := Lib.hid HV1
    have HA2 := Lib.hid HV2
    have HR := Lib.hid hR
    clear hR HV1 HV2
    obtain ⟨i0, hi0, hz0, hz1, hz2⟩ := info_word'
    go_enter Try.func14, Try.ntmps14
    go_wp2_with fail
    go_loopw [5, 6] (fun v i wr => ∃ (k : Nat) (l : List (Wd × Nat)) (f : Nat), k ≤ s.size ∧ i = .int .i64 k ∧ l.length ≤ k ∧ s.size < k + f ∧ Hid (R = (l ++ (wordsFrom s f k).1, (wordsFrom s f k).2)) ∧ Hid (Wds wr w.heap.size v l) ∧ Hid (Below w.heap.size w wr)) (fun _ i _ => s.size - (intOf i).toNat)
    case atStart => exact ⟨0, [], s.size + 1, by omega, rfl, by simp, by omega, Lib.hid (by rw [← HR.out]; rfl), Lib.hid (Wds.nil _ _), Lib.hid (Below.refl _ _)⟩
    case round =>
      obtain ⟨k, l, f0, hk, rfl, hlk, hf0, HF, HL, HB⟩ := hrel
      obtain ⟨f, rfl⟩ : ∃ f, f0 = f + 1 := ⟨f0 - 1, by omega⟩
      by_cases hlt : k < s.size
      · obtain ⟨b, hb⟩ : ∃ b, (s[k]'hlt).toNat = b := ⟨_, rfl⟩
        have hbl : b < 256 := by rw [← hb]; exact UInt8.toNat_lt _
        have HBt : Hid (bt s k = b) := Lib.hid (by rw [← bt_is hlt]; exact hb)
        obtain ⟨c, hc⟩ : ∃ c, blankS b = c := ⟨_, rfl⟩
        have HC := Lib.hid hc
        clear hc
        rcases c with _ | _
        · obtain ⟨x, n, hx, hkn⟩ := word_nat s k hlt
          have HX := Lib.hid hx
          clear hx
          have hdr := word_drop s k hlt
          rw [HX.out] at hdr
          dsimp only at hdr
          obtain ⟨r, hr⟩ : ∃ r, s.extract k s.size = r := ⟨_, rfl⟩
          have hr0 : 0 < r.size := by rw [← hr, drop_size]; omega
          have hr1 : r.size ≤ 20000 := by rw [← hr, drop_size]; omega
          rw [hr] at hdr
          obtain ⟨y, hy⟩ : ∃ y, (wordP r).1 = y := ⟨_, rfl⟩
          rw [hy] at hdr
          have HP : Hid (wordP r = (y, (n : Int))) := Lib.hid (Prod.ext hy hdr.1)
          have HY : Hid (0 < n → y = x) := Lib.hid (fun h => hdr.2 (by omega))
          clear hdr hy
          by_cases hn : n = 0
          · obtain rfl := hn
            have HV : Hid (wordsS s = ([], (k : Int), 2)) := Lib.hid (HA1.out (l ++ []) k (by rw [HF.out, words_bad (by omega) (by rw [HBt.out]; exact HC.out) HX.out]))
            go_wp2_with fail
            refine (lexBlankV b hbl false HC.out _).mono ?_
            rintro e w0 ⟨rfl, rfl⟩
            go_wp2_with fail
            refine (lexWordV r hr1 hr0 y 0 HP.out _).mono ?_
            rintro e w1 ⟨rfl, hb1⟩
            have HL1 := Lib.hid (HL.out.next hb1)
            have HB1 : Hid (Below w.heap.size w w1) := Lib.hid (HB.out.trans (hb1.mono HB.out.size))
            have hs1 := HB1.out.size
            clear hb1
            go_wp2_with fail
            exact bodyPost_ret (v := .tuple #[.slice none 0 0, .int .i64 k, .int .i64 2]) (by simp [results, Try.results14, go_sem]) rfl ⟨_, _, _, _, HV.out, rfl, Wds.nil _ _, HB1.out.alloc hs1 _⟩
          · have hn0 : 0 < n := by omega
            obtain rfl := HY.out hn0
            have e1 : ((n : Int) == 0) = false := beq_eq_false_iff_ne.2 (by omega)
            have e2 : (n == 0) = false := beq_eq_false_iff_ne.2 hn
            have HF2 : Hid (R = ((l ++ [(y, k)]) ++ (wordsFrom s f (k + n)).1, (wordsFrom s f (k + n)).2)) := Lib.hid (by rw [HF.out, words_one (by omega) (by rw [HBt.out]; exact HC.out) HX.out hn0, List.append_assoc]; rfl)
            clear hn
            go_wp2_with fail
            refine (lexBlankV b hbl false HC.out _).mono ?_
            rintro e w0 ⟨rfl, rfl⟩
            go_wp2_with fail
            refine (lexWordV r hr1 hr0 y n HP.out _).mono ?_
            rintro e w1 ⟨rfl, hb1⟩
            have HL1 := Lib.hid (HL.out.next hb1)
            have HB1 : Hid (Below w.heap.size w w1) := Lib.hid (HB.out.trans (hb1.mono HB.out.size))
            have hs1 := HB1.out.size
            clear hb1
            go_wp2_with (first
              | (at_builtin
                 refine wpList_append_own _ rfl _ _ _ rfl w.heap.size 57 i0 _ 9 80 Try.underlying53 hi0 hz0 hz1 hz2 rfl (by omega) u5 _ _ rfl ((HL1.out.alloc _).alloc _) ⟨_, 0, none⟩ 1 1 [.int .i64 y.kind, .int .i64 k, .int .u64 y.set.w0, .int .u64 y.set.w1, .int .u64 y.set.w2, .int .u64 y.set.w3, .string y.name, .int .i64 y.lo, .int .i64 y.hi] rfl rfl ?c1 ?c2 ?c3 ?c4 ?c5 ?_
                 case c1 => exact news_two _ _ _ _
                 case c2 => simp [Value.oneCell']
                 case c3 => unfold maxLen; omega
                 case c4 => omega
                 case c5 => simp; omega
                 intro v' w4 hown4 hg4 _))
            exact ⟨⟨k + n, l ++ [(y, k)], f, by omega, by go_num, by rw [List.length_append]; simp; omega, by omega, HF2, Lib.hid (Wds.push hown4), Lib.hid (below_grown4 HB1.out hs1 hg4 HL1.out.low)⟩, by simp [intOf]; omega⟩
        · have HF2 : Hid (R = (l ++ (wordsFrom s f (k + 1)).1, (wordsFrom s f (k + 1)).2)) := Lib.hid (by rw [HF.out, words_blank (by omega) (by rw [HBt.out]; exact HC.out)])
          go_wp2_with fail
          refine (lexBlankV b hbl true HC.out _).mono ?_
          rintro e w0 ⟨rfl, rfl⟩
          go_wp2_with fail
          exact ⟨⟨k + 1, l, f, by omega, by go_num, by omega, by omega, HF2, HL, HB⟩, by simp [intOf]; omega⟩
      · obtain rfl : k = s.size := by omega
        have HV : Hid (wordsS s = (l, 0, 0)) := Lib.hid (HA2.out l (by rw [HF.out, words_end (Nat.le_refl _)]; simp))
        go_wp2_with fail
        exact bodyPost_ret (v := .tuple #[_, .int .i64 0, .int .i64 0]) (by simp [results, Try.results14, go_sem]) rfl ⟨_, _, _, _, HV.out, rfl, HL.out, HB.out⟩
end Go.Proofs.Ytkbfoelffeocmaa
