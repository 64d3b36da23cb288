/- A formed formula of at most nine numbers has at most 126 parts. Mathematics. -/
import Derived.Test.YtehokjaojanieaaFmOpMath
namespace Go.Proofs.Ytehokjaojanieaa
set_option linter.unusedVariables false

/-- All subsets of nine, in 126 chains. -/
def chains9 : List (List Nat) := [
    [0, 1, 3, 7, 15, 31, 63, 127, 255, 511],
    [2, 6, 14, 30, 62, 126, 254, 510],
    [4, 5, 13, 29, 61, 125, 253, 509],
    [8, 9, 11, 27, 59, 123, 251, 507],
    [10, 26, 58, 122, 250, 506],
    [12, 28, 60, 124, 252, 508],
    [16, 17, 19, 23, 55, 119, 247, 503],
    [18, 22, 54, 118, 246, 502],
    [20, 21, 53, 117, 245, 501],
    [24, 25, 57, 121, 249, 505],
    [32, 33, 35, 39, 47, 111, 239, 495],
    [34, 38, 46, 110, 238, 494],
    [36, 37, 45, 109, 237, 493],
    [40, 41, 43, 107, 235, 491],
    [42, 106, 234, 490],
    [44, 108, 236, 492],
    [48, 49, 51, 115, 243, 499],
    [50, 114, 242, 498],
    [52, 116, 244, 500],
    [56, 120, 248, 504],
    [64, 65, 67, 71, 79, 95, 223, 479],
    [66, 70, 78, 94, 222, 478],
    [68, 69, 77, 93, 221, 477],
    [72, 73, 75, 91, 219, 475],
    [74, 90, 218, 474],
    [76, 92, 220, 476],
    [80, 81, 83, 87, 215, 471],
    [82, 86, 214, 470],
    [84, 85, 213, 469],
    [88, 89, 217, 473],
    [96, 97, 99, 103, 231, 487],
    [98, 102, 230, 486],
    [100, 101, 229, 485],
    [104, 105, 233, 489],
    [112, 113, 241, 497],
    [128, 129, 131, 135, 143, 159, 191, 447],
    [130, 134, 142, 158, 190, 446],
    [132, 133, 141, 157, 189, 445],
    [136, 137, 139, 155, 187, 443],
    [138, 154, 186, 442],
    [140, 156, 188, 444],
    [144, 145, 147, 151, 183, 439],
    [146, 150, 182, 438],
    [148, 149, 181, 437],
    [152, 153, 185, 441],
    [160, 161, 163, 167, 175, 431],
    [162, 166, 174, 430],
    [164, 165, 173, 429],
    [168, 169, 171, 427],
    [170, 426],
    [172, 428],
    [176, 177, 179, 435],
    [178, 434],
    [180, 436],
    [184, 440],
    [192, 193, 195, 199, 207, 463],
    [194, 198, 206, 462],
    [196, 197, 205, 461],
    [200, 201, 203, 459],
    [202, 458],
    [204, 460],
    [208, 209, 211, 467],
    [210, 466],
    [212, 468],
    [216, 472],
    [224, 225, 227, 483],
    [226, 482],
    [228, 484],
    [232, 488],
    [240, 496],
    [256, 257, 259, 263, 271, 287, 319, 383],
    [258, 262, 270, 286, 318, 382],
    [260, 261, 269, 285, 317, 381],
    [264, 265, 267, 283, 315, 379],
    [266, 282, 314, 378],
    [268, 284, 316, 380],
    [272, 273, 275, 279, 311, 375],
    [274, 278, 310, 374],
    [276, 277, 309, 373],
    [280, 281, 313, 377],
    [288, 289, 291, 295, 303, 367],
    [290, 294, 302, 366],
    [292, 293, 301, 365],
    [296, 297, 299, 363],
    [298, 362],
    [300, 364],
    [304, 305, 307, 371],
    [306, 370],
    [308, 372],
    [312, 376],
    [320, 321, 323, 327, 335, 351],
    [322, 326, 334, 350],
    [324, 325, 333, 349],
    [328, 329, 331, 347],
    [330, 346],
    [332, 348],
    [336, 337, 339, 343],
    [338, 342],
    [340, 341],
    [344, 345],
    [352, 353, 355, 359],
    [354, 358],
    [356, 357],
    [360, 361],
    [368, 369],
    [384, 385, 387, 391, 399, 415],
    [386, 390, 398, 414],
    [388, 389, 397, 413],
    [392, 393, 395, 411],
    [394, 410],
    [396, 412],
    [400, 401, 403, 407],
    [402, 406],
    [404, 405],
    [408, 409],
    [416, 417, 419, 423],
    [418, 422],
    [420, 421],
    [424, 425],
    [432, 433],
    [448, 449, 451, 455],
    [450, 454],
    [452, 453],
    [456, 457],
    [464, 465],
    [480, 481]]
theorem chains_count : chains9.length = 126 := by decide +kernel
theorem chains_all : (List.range 512).all (fun a => chains9.any (fun c => c.contains a)) = true := by decide +kernel
theorem chains_sub : chains9.all (fun c => c.all (fun a => c.all (fun b => decide (a &&& b = a) || decide (a &&& b = b)))) = true := by decide +kernel
theorem nodup_le : ∀ (n : Nat) (l : List Nat), l.Nodup → (∀ x ∈ l, x < n) → l.length ≤ n
  | 0, l, _, h => by
    cases l with
    | nil => exact Nat.le_refl _
    | cons x l => exact absurd (h x List.mem_cons_self) (Nat.not_lt_zero _)
  | n + 1, l, hd, h => by
    by_cases hm : n ∈ l
    · have h1 : (l.erase n).length = l.length - 1 := by rw [List.length_erase_of_mem hm]
      have h2 := nodup_le n (l.erase n) (hd.erase n) (fun x hx => by
        have hx1 := List.mem_of_mem_erase hx
        have hx2 : x ≠ n := fun e => by
          rw [e] at hx
          exact absurd hx (hd.not_mem_erase)
        have := h x hx1; omega)
      have h3 : 0 < l.length := List.length_pos_of_mem hm
      omega
    · have := nodup_le n l hd (fun x hx => by
        have := h x hx
        have h2 : x ≠ n := fun e => hm (by rw [← e]; exact hx)
        omega)
      omega
/-- The number of a subset's chain. -/
def chainOf (a : Nat) : Nat := chains9.findIdx (fun c => c.contains a)
theorem chain_lt {a : Nat} (h : a < 512) : chainOf a < 126 := by
  have h1 := List.all_eq_true.1 chains_all a (List.mem_range.2 h)
  have h2 := List.findIdx_lt_length_of_exists (p := fun c : List Nat => c.contains a) (List.any_eq_true.1 h1)
  rw [chains_count] at h2
  exact h2
theorem chain_in {a : Nat} (h : a < 512) : ∃ c ∈ chains9, chains9[chainOf a]? = some c ∧ a ∈ c := by
  have h1 := List.all_eq_true.1 chains_all a (List.mem_range.2 h)
  have h2 := List.findIdx_lt_length_of_exists (p := fun c : List Nat => c.contains a) (List.any_eq_true.1 h1)
  have h3 := List.findIdx_getElem (p := fun c : List Nat => c.contains a) (w := h2)
  exact ⟨_, List.getElem_mem h2, List.getElem?_eq_getElem h2, by simpa using h3⟩
theorem chain_same {a b : Nat} (ha : a < 512) (hb : b < 512) (h : chainOf a = chainOf b) : a &&& b = a ∨ a &&& b = b := by
  obtain ⟨c, hc, hca, hac⟩ := chain_in ha
  obtain ⟨d, hd, hdb, hbd⟩ := chain_in hb
  rw [h, hdb] at hca
  injection hca with e
  subst e
  have h1 := List.all_eq_true.1 (List.all_eq_true.1 (List.all_eq_true.1 chains_sub d hd) a hac) b hbd
  simp only [Bool.or_eq_true, decide_eq_true_eq] at h1
  exact h1
theorem and_sub {a b i : Nat} (h : a &&& b = a) (ht : a.testBit i = true) : b.testBit i = true := by
  have := congrArg (fun x => x.testBit i) h
  simp only [Nat.testBit_and] at this
  rw [ht, Bool.true_and] at this
  exact this
theorem chosen_mask {l p : List Int} (hl : Up l) (hp : Up p) (h : ∀ x ∈ p, x ∈ l) : chosenS l (maskTo l p l.length) = p := by
  refine up_eq (chosen_up hl) hp (fun x hx => ?_) (fun x hx => ?_)
  · obtain ⟨i, hi, ht, rfl⟩ := chosen_mem.1 hx
    rw [mask_at l p i _ hi] at ht
    exact has_iff.1 ht
  · obtain ⟨i, hi, rfl⟩ := List.mem_iff_getElem.1 (h x hx)
    refine chosen_mem.2 ⟨i, hi, ?_, inAt_lt hi⟩
    rw [mask_at l p i _ hi, inAt_lt hi]
    exact has_iff.2 hx
/-- Sperner, for nine. -/
theorem fm_few {f : Fm} {l : List Int} (hf : Fmd f) (hl : Up l) (h9 : l.length ≤ 9) (h : ∀ p ∈ f, ∀ x ∈ p, x ∈ l) : f.length ≤ 126 := by
  have hm : ∀ p, maskTo l p l.length < 512 := fun p => Nat.lt_of_lt_of_le (mask_lt l p l.length) (Nat.pow_le_pow_right (n := 2) (by omega) h9)
  have hn : (f.map (fun p => chainOf (maskTo l p l.length))).Nodup := by
    unfold List.Nodup
    rw [List.pairwise_map]
    have hs := List.pairwise_iff_getElem.1 hf.sorted
    refine List.pairwise_iff_getElem.2 (fun i j hi hj hij e => ?_)
    have hne : f[i] ≠ f[j] := fun e2 => by
      have := hs i j hi hj hij
      rw [e2, less_irr] at this; cases this
    have hpi := List.getElem_mem hi
    have hpj := List.getElem_mem hj
    have ei := chosen_mask hl (hf.up _ hpi).1 (h _ hpi)
    have ej := chosen_mask hl (hf.up _ hpj).1 (h _ hpj)
    rcases chain_same (hm _) (hm _) e with c | c
    · refine hne (hf.apart _ hpi _ hpj (fun x hx => ?_))
      rw [← ei] at hx
      rw [← ej]
      obtain ⟨k, hk, hkt, rfl⟩ := chosen_mem.1 hx
      exact chosen_mem.2 ⟨k, hk, and_sub c hkt, rfl⟩
    · refine hne (hf.apart _ hpj _ hpi (fun x hx => ?_)).symm
      rw [← ej] at hx
      rw [← ei]
      obtain ⟨k, hk, hkt, rfl⟩ := chosen_mem.1 hx
      exact chosen_mem.2 ⟨k, hk, and_sub (by rw [Nat.and_comm]; exact c) hkt, rfl⟩
  have := nodup_le 126 _ hn (fun x hx => by
    obtain ⟨p, _, rfl⟩ := List.mem_map.1 hx
    exact chain_lt (hm p))
  simpa using this

end Go.Proofs.Ytehokjaojanieaa
