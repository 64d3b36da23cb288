/- package formula: mathematics of Key: the text of a formula, that no other one has. No program is walked here. -/
import Derived.Test.YtehokjaojanieaaDoorFmFew
import Derived.Lib.ItoaNum
import Derived.Lib.ItoaMem
import Derived.Lib.ItoaLen
namespace Go.Proofs.YtehokjaojanieaaDoor
open Go.RowKit
set_option linter.unusedVariables false
set_option linter.unusedSimpArgs false

def partB (p : List Int) : List UInt8 := p.flatMap (fun n => Lib.itoa n ++ [44])
def keyB (f : Fm) : List UInt8 := f.flatMap (fun p => partB p ++ [59])
def keyK (f : Fm) : ByteArray := ⟨(keyB f).toArray⟩
theorem digit_val {d : Nat} (h : d < 10) : (UInt8.ofNat (48 + d)).toNat = 48 + d := by
  rw [UInt8.toNat_ofNat']; omega
theorem dec_digits (u : Nat) : Lib.decDigits u ≠ [] ∧ ∀ b ∈ Lib.decDigits u, 48 ≤ b.toNat ∧ b.toNat ≤ 57 := by
  induction u using Nat.strongRecOn with
  | _ u ih =>
    rw [Lib.decDigits]
    by_cases h : u < 10
    · rw [dif_pos h]
      refine ⟨by simp, fun b hb => ?_⟩
      rw [List.mem_singleton.1 hb, digit_val h]; omega
    · rw [dif_neg h]
      obtain ⟨_, h2⟩ := ih (u / 10) (by omega)
      refine ⟨by simp, fun b hb => ?_⟩
      rcases List.mem_append.1 hb with hb | hb
      · exact h2 b hb
      · rw [List.mem_singleton.1 hb, digit_val (by omega)]; omega
theorem dec_val (u : Nat) : (Lib.decDigits u).foldl (fun a b => a * 10 + (b.toNat - 48)) 0 = u := by
  induction u using Nat.strongRecOn with
  | _ u ih =>
    rw [Lib.decDigits]
    by_cases h : u < 10
    · rw [dif_pos h]
      simp only [List.foldl_cons, List.foldl_nil]
      rw [digit_val h]; omega
    · rw [dif_neg h, List.foldl_append, ih (u / 10) (by omega)]
      simp only [List.foldl_cons, List.foldl_nil]
      rw [digit_val (by omega)]; omega
theorem dec_inj {u v : Nat} (h : Lib.decDigits u = Lib.decDigits v) : u = v := by rw [← dec_val u, ← dec_val v, h]
theorem itoa_pos {n : Int} (h : 0 ≤ n) : Lib.itoa n = Lib.decDigits n.toNat := by unfold Lib.itoa; rw [if_neg (by omega)]
theorem itoa_dig {n : Int} (h : 0 ≤ n) : Lib.itoa n ≠ [] ∧ (44 : UInt8) ∉ Lib.itoa n ∧ (59 : UInt8) ∉ Lib.itoa n := by
  rw [itoa_pos h]
  obtain ⟨a, b⟩ := dec_digits n.toNat
  refine ⟨a, fun h => ?_, fun h => ?_⟩
  · have := b _ h; simp at this
  · have := (b _ h).2; simp at this
theorem itoa_eq {n m : Int} (hn : 0 ≤ n) (hm : 0 ≤ m) (h : Lib.itoa n = Lib.itoa m) : n = m := by
  rw [itoa_pos hn, itoa_pos hm] at h
  have := dec_inj h
  omega
/-- A text up to the first sign c. -/
theorem split_at {c : UInt8} : ∀ {a b r s : List UInt8}, c ∉ a → c ∉ b → a ++ c :: r = b ++ c :: s → a = b ∧ r = s
  | [], [], r, s, _, _, h => by simp at h; exact ⟨rfl, h⟩
  | [], y :: b, r, s, _, hb, h => by
    simp at h
    exact absurd h.1.symm (fun e => hb (by rw [← e]; simp))
  | x :: a, [], r, s, ha, _, h => by
    simp at h
    exact absurd h.1 (fun e => ha (by rw [← e]; simp))
  | x :: a, y :: b, r, s, ha, hb, h => by
    simp only [List.cons_append, List.cons.injEq] at h
    obtain ⟨e1, e2⟩ := split_at (fun h' => ha (List.mem_cons_of_mem _ h')) (fun h' => hb (List.mem_cons_of_mem _ h')) h.2
    exact ⟨by rw [h.1, e1], e2⟩
theorem part_split : ∀ {p q : List Int} {r s : List UInt8}, (∀ n ∈ p, 0 ≤ n) → (∀ n ∈ q, 0 ≤ n) → partB p ++ 59 :: r = partB q ++ 59 :: s → p = q ∧ r = s
  | [], [], r, s, _, _, h => by simpa [partB] using h
  | [], m :: q, r, s, _, hq, h => by
    exfalso
    obtain ⟨a, _, b⟩ := itoa_dig (hq m (by simp))
    unfold partB at h
    rw [List.flatMap_cons] at h
    cases e : Lib.itoa m with
    | nil => exact a e
    | cons x l =>
      rw [e] at h b
      simp at h
      exact b (by rw [← h.1]; simp)
  | m :: p, [], r, s, hp, _, h => by
    exfalso
    obtain ⟨a, _, b⟩ := itoa_dig (hp m (by simp))
    unfold partB at h
    rw [List.flatMap_cons] at h
    cases e : Lib.itoa m with
    | nil => exact a e
    | cons x l =>
      rw [e] at h b
      simp at h
      exact b (by rw [h.1]; simp)
  | n :: p, m :: q, r, s, hp, hq, h => by
    have hn := hp n (by simp)
    have hm := hq m (by simp)
    have h' : Lib.itoa n ++ 44 :: (partB p ++ 59 :: r) = Lib.itoa m ++ 44 :: (partB q ++ 59 :: s) := by
      unfold partB at h ⊢
      rw [List.flatMap_cons, List.flatMap_cons] at h
      simpa [List.append_assoc] using h
    obtain ⟨e1, e2⟩ := split_at (itoa_dig hn).2.1 (itoa_dig hm).2.1 h'
    obtain ⟨e3, e4⟩ := part_split (fun x hx => hp x (by simp [hx])) (fun x hx => hq x (by simp [hx])) e2
    exact ⟨by rw [itoa_eq hn hm e1, e3], e4⟩
theorem keyB_inj : ∀ {f g : Fm}, (∀ p ∈ f, ∀ n ∈ p, 0 ≤ n) → (∀ p ∈ g, ∀ n ∈ p, 0 ≤ n) → keyB f = keyB g → f = g
  | [], [], _, _, _ => rfl
  | [], q :: g, _, _, h => by simp [keyB] at h
  | p :: f, [], _, _, h => by simp [keyB] at h
  | p :: f, q :: g, hf, hg, h => by
    have h' : partB p ++ 59 :: keyB f = partB q ++ 59 :: keyB g := by
      unfold keyB at h ⊢
      rw [List.flatMap_cons, List.flatMap_cons] at h
      simpa [List.append_assoc] using h
    obtain ⟨e1, e2⟩ := part_split (hf p (by simp)) (hg q (by simp)) h'
    rw [e1, keyB_inj (fun x hx => hf x (by simp [hx])) (fun x hx => hg x (by simp [hx])) e2]
theorem keyK_inj {f g : Fm} (hf : fmS f = true) (hg : fmS g = true) (h : keyK f = keyK g) : f = g := by
  refine keyB_inj (fun p hp => ((fm_of hf).up p hp).2) (fun p hp => ((fm_of hg).up p hp).2) ?_
  have h1 : (keyB f).toArray = (keyB g).toArray := by
    unfold keyK at h
    exact congrArg ByteArray.data h
  have := congrArg Array.toList h1
  simpa using this
theorem partB_len {p : List Int} (h : ∀ n ∈ p, IsI n) : (partB p).length ≤ 22 * p.length := by
  induction p with
  | nil => simp [partB]
  | cons n p ih =>
    have h1 := Lib.itoa_length_le n (h n (by simp)).1 (h n (by simp)).2
    have h2 := ih (fun x hx => h x (by simp [hx]))
    unfold partB at h2 ⊢
    rw [List.flatMap_cons, List.length_append, List.length_append, List.length_cons, List.length_cons, List.length_nil]
    omega
theorem keyB_len {f : Fm} (h : ∀ p ∈ f, ∀ n ∈ p, IsI n) : (keyB f).length ≤ 22 * f.flatten.length + f.length := by
  induction f with
  | nil => simp [keyB]
  | cons p f ih =>
    have h1 := partB_len (h p (by simp))
    have h2 := ih (fun x hx => h x (by simp [hx]))
    unfold keyB at h2 ⊢
    rw [List.flatMap_cons, List.length_append, List.length_append, List.flatten_cons, List.length_append, List.length_cons, List.length_cons, List.length_nil]
    omega
theorem key_take {f : Fm} {i : Nat} (h : i < f.length) : keyB (f.take (i + 1)) = keyB (f.take i) ++ (partB (paAt f i) ++ [59]) := by
  unfold keyB; rw [take_step f i h, List.flatMap_append, paAt_lt h]; simp
theorem part_take {p : List Int} {k : Nat} (h : k < p.length) : partB (p.take (k + 1)) = partB (p.take k) ++ (Lib.itoa (inAt p k) ++ [44]) := by
  unfold partB; rw [take_step p k h, List.flatMap_append, inAt_lt h]; simp

end Go.Proofs.YtehokjaojanieaaDoor
