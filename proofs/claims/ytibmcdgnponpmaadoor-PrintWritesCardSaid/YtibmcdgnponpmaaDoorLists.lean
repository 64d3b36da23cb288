/- Plain facts on the list of a set's bytes: word by word, bit by bit; and on how many they are. No program is named here. -/
import Derived.Test.YtibmcdgnponpmaaDoorMa
import Derived.Lib.TrailingZeros
namespace Go.Proofs.YtibmcdgnponpmaaDoor
open Go.RowKit

/-- The bits of a word, rising. -/
def ws (w : Nat) : List Nat := (List.range 64).filter (fun i => w.testBit i)
def St.listTo (s : St) (i : Nat) : List Nat := (List.range (64 * i)).filter (fun x => s.has x)
def St.list (s : St) : List Nat := (List.range 256).filter (fun x => s.has x)
theorem St.listTo_zero (s : St) : s.listTo 0 = [] := by simp [St.listTo]
theorem St.listTo_four (s : St) : s.listTo 4 = s.list := rfl
theorem St.listTo_succ (s : St) (i : Nat) : s.listTo (i + 1) = s.listTo i ++ (ws (s.word i)).map (64 * i + ·) := by
  unfold St.listTo ws
  rw [show 64 * (i + 1) = 64 * i + 64 from by omega, List.range_add, List.filter_append, List.filter_map]
  congr 2
  apply List.filter_congr
  intro x hx
  have hx' : x < 64 := by simpa using hx
  unfold St.has
  simp only [Function.comp_apply]
  rw [show (64 * i + x) / 64 = i from by omega, show (64 * i + x) % 64 = x from by omega]

theorem filter_first (p : Nat → Bool) (n k : Nat) (hk : k < n) (hp : p k = true) (hl : ∀ i, i < k → p i = false) :
    (List.range n).filter p = k :: (List.range n).filter (fun i => p i && decide (i ≠ k)) := by
  obtain ⟨r, rfl⟩ : ∃ r, n = k + 1 + r := ⟨n - k - 1, by omega⟩
  rw [List.range_add, List.range_succ]
  simp only [List.filter_append, List.append_assoc]
  have e1 : (List.range k).filter p = [] := by
    rw [List.filter_eq_nil_iff]; intro i hi; simp at hi; simp [hl i hi]
  have e2 : (List.range k).filter (fun i => p i && decide (i ≠ k)) = [] := by
    rw [List.filter_eq_nil_iff]; intro i hi; simp at hi; simp [hl i hi]
  have e3 : ((List.range r).map (k + 1 + ·)).filter p = ((List.range r).map (k + 1 + ·)).filter (fun i => p i && decide (i ≠ k)) := by
    apply List.filter_congr
    intro x hx
    simp at hx
    obtain ⟨y, _, rfl⟩ := hx
    have : k + 1 + y ≠ k := by omega
    simp [this]
  rw [e1, e2, e3]
  simp [hp]

theorem low_bits (k m : Nat) (i : Nat) : (2 ^ k * (2 * m + 1)).testBit i = (decide (i = k) || (decide (k < i) && m.testBit (i - k - 1))) := by
  rw [Nat.testBit_two_pow_mul]
  by_cases h : i = k
  · subst h; simp
  · by_cases h2 : k < i
    · obtain ⟨j, rfl⟩ : ∃ j, i = k + 1 + j := ⟨i - k - 1, by omega⟩
      rw [show k + 1 + j - k = j + 1 from by omega, show j + 1 - 1 = j from by omega, Nat.testBit_succ, show (2 * m + 1) / 2 = m from by omega]
      simp [show k ≤ k + 1 + j from by omega, show k < k + 1 + j from by omega, show ¬ (k + 1 + j = k) from by omega]
    · simp [h, h2, show ¬ (k ≤ i) from by omega]
theorem less_one (k m : Nat) (i : Nat) : (2 ^ k * (2 * m + 1) - 1).testBit i = (decide (i < k) || (decide (k < i) && m.testBit (i - k - 1))) := by
  have hp : 0 < 2 ^ k := Nat.two_pow_pos k
  have e : 2 ^ k * (2 * m + 1) - 1 = 2 ^ k * (2 * m) + (2 ^ k - 1) := by
    rw [Nat.mul_add, Nat.mul_one]; omega
  rw [e, Nat.testBit_two_pow_mul_add _ (by omega)]
  by_cases h : i < k
  · rw [if_pos h, Nat.testBit_two_pow_sub_one]; simp [h]
  · rw [if_neg h]
    by_cases h2 : k < i
    · obtain ⟨j, rfl⟩ : ∃ j, i = k + 1 + j := ⟨i - k - 1, by omega⟩
      rw [show k + 1 + j - k = j + 1 from by omega, show j + 1 - 1 = j from by omega, Nat.testBit_succ, show 2 * m / 2 = m from by omega]
      simp [show k < k + 1 + j from by omega, show ¬ (k + 1 + j < k) from by omega]
    · have : i = k := by omega
      subst this
      simp
theorem ws_step (w : Nat) (h0 : w ≠ 0) (h : U64 w) : Lib.ctz 64 w < 64 ∧ ws w = Lib.ctz 64 w :: ws (w &&& (w - 1)) := by
  obtain ⟨m, hm, hk⟩ := Lib.ctzFrom_spec 64 w (by omega) h
  have e : Lib.ctz 64 w = Lib.ctzFrom 64 w := by simp [Lib.ctz, h0]
  rw [e]
  refine ⟨hk, ?_⟩
  generalize Lib.ctzFrom 64 w = k at hm hk
  unfold ws
  rw [filter_first _ 64 k hk (by rw [hm, low_bits]; simp) (by intro i hi; rw [hm, low_bits]; simp; omega)]
  congr 1
  apply List.filter_congr
  intro i _
  rw [Nat.testBit_and, hm, low_bits, less_one]
  by_cases h1 : i = k
  · subst h1; simp
  · by_cases h2 : k < i
    · simp [h1, h2, show ¬ (i < k) from by omega]
    · simp [h1, h2]
theorem ws_zero : ws 0 = [] := by simp [ws]
theorem ws_length (w : Nat) : (ws w).length ≤ 64 := by
  have := List.length_filter_le (fun i => w.testBit i) (List.range 64)
  simpa [ws] using this
theorem less_u64 (w : Nat) (h : U64 w) : U64 (w &&& (w - 1)) := and_u64 h
theorem ws_nil (w : Nat) (h : U64 w) (hn : ws w = []) : w = 0 := by
  by_cases h0 : w = 0
  · exact h0
  · rw [(ws_step w h0 h).2] at hn; cases hn

/- How many bits: the sum by halves, byte by byte. -/
def rep (v : Nat) : Nat → Nat
  | 0 => 0
  | n + 1 => v + 256 * rep v n
theorem land_bytes (u v y m : Nat) (hu : u < 256) (hv : v < 256) : (u + 256 * y) &&& (v + 256 * m) = (u &&& v) + 256 * (y &&& m) := by
  have hl : u &&& v < 2 ^ 8 := Nat.and_lt_two_pow _ hv
  apply Nat.eq_of_testBit_eq
  intro i
  rw [Nat.testBit_and, Nat.add_comm u, Nat.add_comm v, Nat.add_comm (u &&& v), show (256 : Nat) = 2 ^ 8 from rfl, Nat.testBit_two_pow_mul_add _ hu, Nat.testBit_two_pow_mul_add _ hv, Nat.testBit_two_pow_mul_add _ hl]
  split <;> rw [Nat.testBit_and]
def s1 (n x : Nat) : Nat := ((x / 2) &&& rep 85 n) + (x &&& rep 85 n)
def s2 (n x : Nat) : Nat := ((x / 4) &&& rep 51 n) + (x &&& rep 51 n)
def s3 (n x : Nat) : Nat := ((x / 16) + x) &&& rep 15 n
def f1 (c : Nat) : Nat := (c / 2 &&& 85) + (c &&& 85)
def f2 (c : Nat) : Nat := (c / 4 &&& 51) + (c &&& 51)
def f3 (c : Nat) : Nat := (c / 16 + c) &&& 15
theorem low1 : ∀ c, c < 256 → ∀ e, e < 2 → (c / 2 + 128 * e) &&& 85 = c / 2 &&& 85 := by decide +kernel
theorem low2 : ∀ c, c < 256 → ∀ e, e < 4 → (c / 4 + 64 * e) &&& 51 = c / 4 &&& 51 := by decide +kernel
theorem f1_le : ∀ c, c < 256 → f1 c < 256 := by decide +kernel
theorem f2_le : ∀ c, c < 256 → f2 (f1 c) ≤ 68 ∧ f2 (f1 c) % 16 ≤ 4 := by decide +kernel
theorem f3_is : ∀ c, c < 256 → f3 (f2 (f1 c)) = ((List.range 8).filter (fun i => c.testBit i)).length := by decide +kernel
theorem s1_succ (n c x : Nat) (hc : c < 256) : s1 (n + 1) (c + 256 * x) = f1 c + 256 * s1 n x := by
  unfold s1
  have e : (c + 256 * x) / 2 = (c / 2 + 128 * (x % 2)) + 256 * (x / 2) := by omega
  show ((c + 256 * x) / 2 &&& (85 + 256 * rep 85 n)) + ((c + 256 * x) &&& (85 + 256 * rep 85 n)) = _
  rw [e, land_bytes _ _ _ _ (by omega) (by omega), land_bytes _ _ _ _ hc (by omega), low1 c hc _ (by omega)]
  unfold f1
  omega
theorem s2_succ (n c x : Nat) (hc : c < 256) : s2 (n + 1) (c + 256 * x) = f2 c + 256 * s2 n x := by
  unfold s2
  have e : (c + 256 * x) / 4 = (c / 4 + 64 * (x % 4)) + 256 * (x / 4) := by omega
  show ((c + 256 * x) / 4 &&& (51 + 256 * rep 51 n)) + ((c + 256 * x) &&& (51 + 256 * rep 51 n)) = _
  rw [e, land_bytes _ _ _ _ (by omega) (by omega), land_bytes _ _ _ _ hc (by omega), low2 c hc _ (by omega)]
  unfold f2
  omega
theorem s3_succ (n c x : Nat) (hc : c ≤ 68) (hx : x % 16 ≤ 4) : s3 (n + 1) (c + 256 * x) = f3 c + 256 * s3 n x := by
  unfold s3
  have e : (c + 256 * x) / 16 + (c + 256 * x) = (c / 16 + c + 16 * (x % 16)) + 256 * (x / 16 + x) := by omega
  show ((c + 256 * x) / 16 + (c + 256 * x)) &&& (15 + 256 * rep 15 n) = _
  rw [e, land_bytes _ _ _ _ (by omega) (by omega)]
  unfold f3
  congr 1
  rw [show (15 : Nat) = 2 ^ 4 - 1 from rfl, Nat.and_two_pow_sub_one_eq_mod, Nat.and_two_pow_sub_one_eq_mod]
  omega
def onesIn (n x : Nat) : Nat := ((List.range n).filter (fun i => x.testBit i)).length
theorem ones_split (n c x : Nat) (hc : c < 256) : onesIn (8 + n) (c + 256 * x) = onesIn 8 c + onesIn n x := by
  unfold onesIn
  rw [List.range_add, List.filter_append, List.length_append, List.filter_map, List.length_map]
  congr 2
  · apply List.filter_congr
    intro i hi
    have hi' : i < 8 := by simpa using hi
    rw [Nat.add_comm c, show (256 : Nat) = 2 ^ 8 from rfl, Nat.testBit_two_pow_mul_add _ hc, if_pos hi']
  · apply List.filter_congr
    intro i _
    simp only [Function.comp_apply]
    rw [Nat.add_comm c, show (256 : Nat) = 2 ^ 8 from rfl, Nat.testBit_two_pow_mul_add _ hc, if_neg (by omega), show 8 + i - 8 = i from by omega]
/-- The digits of the third sum are how many bits each byte has. -/
def bsum : Nat → Nat → Nat
  | 0, _ => 0
  | n + 1, x => onesIn 8 (x % 256) + 256 * bsum n (x / 256)
theorem s_all : ∀ (n x : Nat), s3 n (s2 n (s1 n x)) = bsum n x ∧ s2 n (s1 n x) % 16 ≤ 4
  | 0, x => by simp [s3, s2, rep, bsum]
  | n + 1, x => by
    obtain ⟨h1, h2⟩ := s_all n (x / 256)
    have hc : x % 256 < 256 := Nat.mod_lt _ (by omega)
    have e : x = x % 256 + 256 * (x / 256) := by omega
    have e2 : s2 (n + 1) (s1 (n + 1) x) = f2 (f1 (x % 256)) + 256 * s2 n (s1 n (x / 256)) := by
      rw [← s2_succ n _ _ (f1_le _ hc), ← s1_succ n _ _ hc, ← e]
    have hf := f2_le _ hc
    rw [e2, s3_succ n _ _ hf.1 h2, h1, f3_is _ hc]
    exact ⟨rfl, by omega⟩
theorem onesIn8_le (c : Nat) : onesIn 8 c ≤ 8 := by
  have := List.length_filter_le (fun i => c.testBit i) (List.range 8)
  simpa [onesIn] using this
def s4 (y : Nat) : Nat := y + y / 256
def s5 (y : Nat) : Nat := y + y / 65536
def s6 (y : Nat) : Nat := y + y / 4294967296
theorem fold_eight (a b c d e f g h : Nat) (ha : a ≤ 8) (hb : b ≤ 8) (hc : c ≤ 8) (hd : d ≤ 8) (he : e ≤ 8) (hf : f ≤ 8) (hg : g ≤ 8) (hh : h ≤ 8) :
    s6 (s5 (s4 (a + 256 * (b + 256 * (c + 256 * (d + 256 * (e + 256 * (f + 256 * (g + 256 * (h + 256 * 0)))))))))) % 128 = a + b + c + d + e + f + g + h := by
  have e4 : s4 (a + 256 * (b + 256 * (c + 256 * (d + 256 * (e + 256 * (f + 256 * (g + 256 * (h + 256 * 0)))))))) =
      (a + b) + 256 * ((b + c) + 256 * ((c + d) + 256 * ((d + e) + 256 * ((e + f) + 256 * ((f + g) + 256 * ((g + h) + 256 * h)))))) := by
    unfold s4; omega
  rw [e4]
  have e5 : s5 ((a + b) + 256 * ((b + c) + 256 * ((c + d) + 256 * ((d + e) + 256 * ((e + f) + 256 * ((f + g) + 256 * ((g + h) + 256 * h))))))) =
      (a + b + c + d) + 256 * ((b + c + d + e) + 256 * ((c + d + e + f) + 256 * ((d + e + f + g) + 256 * ((e + f + g + h) + 256 * ((f + g + h) + 256 * ((g + h) + 256 * h)))))) := by
    unfold s5; omega
  rw [e5]
  clear e4 e5
  have e6 : ((a + b + c + d) + 256 * ((b + c + d + e) + 256 * ((c + d + e + f) + 256 * ((d + e + f + g) + 256 * ((e + f + g + h) + 256 * ((f + g + h) + 256 * ((g + h) + 256 * h))))))) / 4294967296 =
      (e + f + g + h) + 256 * ((f + g + h) + 256 * ((g + h) + 256 * h)) := by omega
  unfold s6
  rw [e6]
  clear e6
  omega
theorem pop_is (w : Nat) : s6 (s5 (s4 (s3 8 (s2 8 (s1 8 w))))) % 128 = (ws w).length := by
  rw [(s_all 8 w).1]
  have hb : ∀ c, onesIn 8 c ≤ 8 := onesIn8_le
  show s6 (s5 (s4 (onesIn 8 _ + 256 * (onesIn 8 _ + 256 * (onesIn 8 _ + 256 * (onesIn 8 _ + 256 * (onesIn 8 _ + 256 * (onesIn 8 _ + 256 * (onesIn 8 _ + 256 * (onesIn 8 _ + 256 * 0)))))))))) % 128 = onesIn 64 w
  rw [fold_eight _ _ _ _ _ _ _ _ (hb _) (hb _) (hb _) (hb _) (hb _) (hb _) (hb _) (hb _)]
  have hs : ∀ (n x : Nat), onesIn (8 + n) x = onesIn 8 (x % 256) + onesIn n (x / 256) := fun n x => by
    rw [← ones_split n _ _ (Nat.mod_lt _ (by omega))]
    congr 1
    omega
  have h64 : onesIn 64 w = onesIn (8 + (8 + (8 + (8 + (8 + (8 + (8 + (8 + 0)))))))) w := rfl
  rw [h64]
  simp only [hs]
  have h0 : ∀ x, onesIn 0 x = 0 := fun x => by simp [onesIn]
  rw [h0]
  omega

end Go.Proofs.YtibmcdgnponpmaaDoor
