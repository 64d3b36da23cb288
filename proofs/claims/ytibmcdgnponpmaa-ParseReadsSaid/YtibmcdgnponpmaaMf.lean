/- Joined: TextW, TextC2, RefOpen, PPlain, TextRead, PlainS, PlainRd. -/
import Derived.Test.YtibmcdgnponpmaaMd
import Derived.Test.YtibmcdgnponpmaaMe
import Derived.Test.YtibmcdgnponpmaaProg
import Derived.Test.YtibmcdgnponpmaaMa
/- The words of a pattern's text: each piece of it is one word, whatever stands behind. -/
namespace Go.Proofs.Ytibmcdgnponpmaa
open Go.RowKit
set_option linter.unusedSimpArgs false
set_option linter.unusedVariables false

abbrev Pc := ByteArray × Wd
def catB : List Pc → ByteArray
  | [] => noT
  | x :: r => x.1 ++ catB r
theorem catB_app : ∀ a b : List Pc, catB (a ++ b) = catB a ++ catB b
  | [], b => (no_app _).symm
  | x :: r, b => by rw [List.cons_append, catB, catB, catB_app r b, app_app]
def signP (b : UInt8) (k : Int) : Pc := (⟨#[b]⟩, kindW k)
def brkP (l : List Pc) : List Pc := signP 40 2 :: (l ++ [signP 41 3])
def tailP (sep : List Pc) : List (List Pc) → List Pc
  | [] => []
  | x :: r => sep ++ brkP x ++ tailP sep r
def rowP (sep : List Pc) : List (List Pc) → List Pc
  | [] => []
  | x :: r => brkP x ++ tailP sep r
def sepP (kind : Int) : List Pc := if kind = 4 then [signP 124 4] else if kind = 5 then [signP 38 5] else []
def preP (kind : Int) : List Pc := if kind = 6 then [signP 126 6] else []
def lookK (kind : Int) (neg : Bool) : Int := if kind = 9 then (if neg = true then 15 else 14) else (if neg = true then 13 else 12)
def lookP (kind : Int) (neg : Bool) : Pc := (lookT kind neg, kindW (lookK kind neg))
def timesP (lo hi : Int) : Pc := (boundsT lo hi, ⟨10, emptyC, { data := #[] }, lo, hi⟩)
def piecesT : Nat → Tr → List Pc
  | 0, _ => []
  | k + 1, t =>
    if t.kind = 1 then [signP 40 2, signP 41 3]
    else if t.kind = 2 then [(clsT t.set, setW t.set)]
    else if t.kind = 10 then [signP 94 16]
    else if t.kind = 11 then [signP 36 17]
    else if t.kind = 8 ∨ t.kind = 9 then lookP t.kind t.neg :: ((t.parts.map (piecesT k)).headD [] ++ [signP 41 3])
    else preP t.kind ++ rowP (sepP t.kind) (t.parts.map (piecesT k)) ++ (if t.kind = 7 then [timesP t.lo t.hi] else [])
theorem catB_one (x : Pc) : catB [x] = x.1 := app_no _
theorem catB_brk (l : List Pc) : catB (brkP l) = brkT (catB l) := by unfold brkP brkT; rw [catB, catB_app, catB_one, ← app_app]; rfl
theorem catB_tail (sep : List Pc) : ∀ l : List (List Pc), catB (tailP sep l) = tailT (catB sep) (l.map catB)
  | [] => rfl
  | x :: r => by rw [tailP, catB_app, catB_app, catB_brk, catB_tail sep r]; rfl
theorem catB_row (sep : List Pc) : ∀ l : List (List Pc), catB (rowP sep l) = rowT (catB sep) (l.map catB)
  | [] => rfl
  | x :: r => by rw [rowP, catB_app, catB_brk, catB_tail]; rfl
theorem catB_sep (kind : Int) : catB (sepP kind) = sepT kind := by
  unfold sepP sepT
  split
  · exact catB_one _
  split
  · exact catB_one _
  · rfl
theorem catB_pre (kind : Int) : catB (preP kind) = preT kind := by
  unfold preP preT
  split
  · exact catB_one _
  · rfl
theorem headD_map {l : List (List Pc)} : catB (l.headD []) = (l.map catB).headD noT := by cases l <;> rfl
/-- The pieces are the text. -/
theorem pieces_text : ∀ (k : Nat) (t : Tr), catB (piecesT k t) = textS k t
  | 0, _ => rfl
  | k + 1, t => by
    have e : (t.parts.map (piecesT k)).map catB = t.parts.map (textS k) := by
      rw [List.map_map]; exact List.map_congr_left fun p _ => pieces_text k p
    unfold piecesT textS
    split
    · rw [catB, catB_one]; rfl
    split
    · exact catB_one _
    split
    · exact catB_one _
    split
    · exact catB_one _
    split
    · rw [catB, catB_app, catB_one, headD_map, e, ← app_app]; rfl
    · rw [catB_app, catB_app, catB_pre, catB_row, catB_sep, e]
      congr 1
      split
      · exact catB_one _
      · rfl

/- Each piece is one word. -/
/-- Wherever the piece stands, with no ? behind it, it is this word. -/
structure LexP (x : Pc) : Prop where
  some : 0 < x.1.size
  head : bt x.1 0 ≠ 63
  ink : blankS (bt x.1 0) = false
  word : ∀ (X : ByteArray) (p : Nat), Holds X p x.1 → bt X (p + x.1.size) ≠ 63 → wordS X p = (x.2, (x.1.size : Int))
theorem lex_sign {b : UInt8} {k : Int} (h40 : ¬ b.toNat = 40) (h91 : ¬ b.toNat = 91) (h123 : ¬ b.toNat = 123) (hk : signsS (b.toNat : Int) = k) (hk0 : 0 < k) (h63 : b.toNat ≠ 63) (hb : blankS b.toNat = false) : LexP (signP b k) :=
  ⟨Nat.one_pos, h63, hb, fun X p h _ => word_sign h.one.2 h40 h91 h123 hk hk0⟩
theorem lex_close : LexP (signP 41 3) := lex_sign (by decide) (by decide) (by decide) (by decide) (by decide) (by decide) (by decide)
theorem lex_bar : LexP (signP 124 4) := lex_sign (by decide) (by decide) (by decide) (by decide) (by decide) (by decide) (by decide)
theorem lex_both : LexP (signP 38 5) := lex_sign (by decide) (by decide) (by decide) (by decide) (by decide) (by decide) (by decide)
theorem lex_not : LexP (signP 126 6) := lex_sign (by decide) (by decide) (by decide) (by decide) (by decide) (by decide) (by decide)
theorem lex_begin : LexP (signP 94 16) := lex_sign (by decide) (by decide) (by decide) (by decide) (by decide) (by decide) (by decide)
theorem lex_end : LexP (signP 36 17) := lex_sign (by decide) (by decide) (by decide) (by decide) (by decide) (by decide) (by decide)
theorem lex_open : LexP (signP 40 2) := by
  refine ⟨Nat.one_pos, by decide, by decide, fun X p h h63 => ?_⟩
  have a := h.one
  have h63' : ¬ bt X (p + 1) = 63 := h63
  unfold wordS
  rw [if_pos (show bt X p = 40 from a.2), open_is, if_neg (by omega), if_neg (by omega), if_neg (by omega), if_neg (by omega)]
  rfl
theorem holds_at {X u : ByteArray} {p i : Nat} (h : Holds X p u) (hi : i < u.size) : p + i < X.size ∧ bt X (p + i) = bt u i := ⟨by have := h.1; omega, h.2 i hi⟩
theorem lex_look {kd : Int} (hk : kd = 8 ∨ kd = 9) (neg : Bool) : LexP (lookP kd neg) := by
  rcases hk with rfl | rfl <;> cases neg
  · refine ⟨by decide, by decide, by decide, fun X p h _ => ?_⟩
    have h0 := holds_at (i := 0) h (by decide)
    have h1 := holds_at (i := 1) h (by decide)
    have h2 := holds_at (i := 2) h (by decide)
    have e0 : bt (lookP 8 false).1 0 = 40 := by decide
    have e1 : bt (lookP 8 false).1 1 = 63 := by decide
    have e2 : bt (lookP 8 false).1 2 = 61 := by decide
    rw [e0, Nat.add_zero] at h0
    rw [e1] at h1
    rw [e2] at h2
    unfold wordS
    rw [if_pos h0.2, open_is, if_pos (by omega)]
    rfl
  · refine ⟨by decide, by decide, by decide, fun X p h _ => ?_⟩
    have h0 := holds_at (i := 0) h (by decide)
    have h1 := holds_at (i := 1) h (by decide)
    have h2 := holds_at (i := 2) h (by decide)
    have e0 : bt (lookP 8 true).1 0 = 40 := by decide
    have e1 : bt (lookP 8 true).1 1 = 63 := by decide
    have e2 : bt (lookP 8 true).1 2 = 33 := by decide
    rw [e0, Nat.add_zero] at h0
    rw [e1] at h1
    rw [e2] at h2
    unfold wordS
    rw [if_pos h0.2, open_is, if_neg (by omega), if_pos (by omega)]
    rfl
  · refine ⟨by decide, by decide, by decide, fun X p h _ => ?_⟩
    have h0 := holds_at (i := 0) h (by decide)
    have h1 := holds_at (i := 1) h (by decide)
    have h2 := holds_at (i := 2) h (by decide)
    have h3 := holds_at (i := 3) h (by decide)
    have e0 : bt (lookP 9 false).1 0 = 40 := by decide
    have e1 : bt (lookP 9 false).1 1 = 63 := by decide
    have e2 : bt (lookP 9 false).1 2 = 60 := by decide
    have e3 : bt (lookP 9 false).1 3 = 61 := by decide
    rw [e0, Nat.add_zero] at h0
    rw [e1] at h1
    rw [e2] at h2
    rw [e3] at h3
    unfold wordS
    rw [if_pos h0.2, open_is, if_neg (by omega), if_neg (by omega), if_pos (by omega)]
    rfl
  · refine ⟨by decide, by decide, by decide, fun X p h _ => ?_⟩
    have h0 := holds_at (i := 0) h (by decide)
    have h1 := holds_at (i := 1) h (by decide)
    have h2 := holds_at (i := 2) h (by decide)
    have h3 := holds_at (i := 3) h (by decide)
    have e0 : bt (lookP 9 true).1 0 = 40 := by decide
    have e1 : bt (lookP 9 true).1 1 = 63 := by decide
    have e2 : bt (lookP 9 true).1 2 = 60 := by decide
    have e3 : bt (lookP 9 true).1 3 = 33 := by decide
    rw [e0, Nat.add_zero] at h0
    rw [e1] at h1
    rw [e2] at h2
    rw [e3] at h3
    unfold wordS
    rw [if_pos h0.2, open_is, if_neg (by omega), if_neg (by omega), if_neg (by omega), if_pos (by omega)]
    rfl

/- How often. -/
def bodyT (lo hi : Int) : ByteArray := digT lo.toNat ++ ⟨#[44]⟩ ++ (if 0 ≤ hi then digT hi.toNat else noT)
theorem body_two : ∀ lo hi : Fin 21, 1 ≤ hi.val → lo.val ≤ hi.val → boundsS (digT lo.val ++ ⟨#[44]⟩ ++ digT hi.val) = some ((lo.val : Int), (hi.val : Int)) := by decide +kernel
theorem body_one : ∀ lo : Fin 21, boundsS (digT lo.val ++ ⟨#[44]⟩ ++ noT) = some ((lo.val : Int), -1) := by decide +kernel
theorem dig_head : ∀ lo : Fin 21, 0 < (digT lo.val).size ∧ 48 ≤ bt (digT lo.val) 0 ∧ bt (digT lo.val) 0 ≤ 57 := by decide +kernel
theorem dig_ink : ∀ lo : Fin 21, ∀ i : Fin 2, bt (digT lo.val) i.val ≠ 125 := by decide +kernel
theorem body_bounds {t : Tr} (h : timesF t) : boundsS (bodyT t.lo t.hi) = some (t.lo, t.hi) := by
  obtain ⟨h1, h2, h3⟩ := h
  obtain ⟨lo, hlo⟩ : ∃ lo : Nat, t.lo = lo := ⟨t.lo.toNat, by omega⟩
  unfold bodyT
  rcases h3 with h3 | ⟨h3, h4, h5⟩
  · have := body_one ⟨lo, by omega⟩
    rw [if_neg (by omega), hlo, Int.toNat_natCast, h3]; exact this
  · obtain ⟨hi, hhi⟩ : ∃ hi : Nat, t.hi = hi := ⟨t.hi.toNat, by omega⟩
    have := body_two ⟨lo, by omega⟩ ⟨hi, by omega⟩ (by show 1 ≤ hi; omega) (by show lo ≤ hi; omega)
    rw [if_pos (by omega), hlo, hhi, Int.toNat_natCast, Int.toNat_natCast]; exact this
theorem body_head {t : Tr} (h : timesF t) : 0 < (bodyT t.lo t.hi).size ∧ 48 ≤ bt (bodyT t.lo t.hi) 0 ∧ bt (bodyT t.lo t.hi) 0 ≤ 57 := by
  have h0 := dig_head ⟨t.lo.toNat, by have := h.1; have := h.2.1; omega⟩
  dsimp only at h0
  have e : bodyT t.lo t.hi = digT t.lo.toNat ++ (⟨#[44]⟩ ++ (if 0 ≤ t.hi then digT t.hi.toNat else noT)) := app_app _ _ _
  rw [e, app_size, bt_app, if_pos h0.1]
  exact ⟨by omega, h0.2⟩
theorem dig_no {n i : Nat} (hn : n ≤ 20) (hi : i < (digT n).size) : bt (digT n) i ≠ 125 := by
  have h2 : (digT n).size ≤ 2 := digT_size
  exact dig_ink ⟨n, by omega⟩ ⟨i, by omega⟩
theorem body_no {t : Tr} (h : timesF t) : ∀ i, i < (bodyT t.lo t.hi).size → bt (bodyT t.lo t.hi) i ≠ 125 := by
  intro i hi
  have h1 := h.1
  have h2 := h.2.1
  have h3 := h.2.2
  unfold bodyT at hi ⊢
  rw [app_size, app_size] at hi
  rw [bt_app]
  split
  · rename_i q
    rw [bt_app]
    split
    · rename_i q2; exact dig_no (by omega) q2
    · rename_i q2
      rw [app_size] at q
      have : (ByteArray.mk #[44]).size = 1 := rfl
      rw [show i - (digT t.lo.toNat).size = 0 by omega]
      decide
  · rename_i q
    rw [app_size] at q
    split at hi
    · rename_i q2
      rw [if_pos q2]
      exact dig_no (by omega) (by rw [app_size]; omega)
    · have : noT.size = 0 := rfl
      omega
theorem bounds_body (lo hi : Int) : boundsT lo hi = ⟨#[123]⟩ ++ (bodyT lo hi ++ ⟨#[125]⟩) := by unfold boundsT bodyT; simp only [app_app]
theorem lex_times {t : Tr} (h : timesF t) : LexP (timesP t.lo t.hi) := by
  have e : (timesP t.lo t.hi).1 = ⟨#[123]⟩ ++ (bodyT t.lo t.hi ++ ⟨#[125]⟩) := bounds_body _ _
  have hz : (timesP t.lo t.hi).1.size = (bodyT t.lo t.hi).size + 2 := by rw [e, app_size, app_size]; show 1 + (_ + 1) = _; omega
  have h0 : bt (timesP t.lo t.hi).1 0 = 123 := by rw [e, bt_app, if_pos (by decide)]; decide
  refine ⟨by omega, by rw [h0]; decide, by rw [h0]; decide, fun X p hX _ => ?_⟩
  rw [hz]
  rw [e, Holds.app, Holds.app] at hX
  obtain ⟨ha, hb, hc⟩ := hX
  have a := ha.one
  have c := hc.one
  have s1 : (ByteArray.mk #[123]).size = 1 := rfl
  rw [s1] at hb c
  have hd := body_head h
  have hn : namedS (bodyT t.lo t.hi) = false := by
    cases hq : namedS (bodyT t.lo t.hi) with
    | false => rfl
    | true =>
      have := (named_size hq).2.2.1
      unfold alphaS at this
      have := of_decide_eq_true this
      omega
  have hf : findS X 125 (X.size + 1) (p + 1) = p + 1 + (bodyT t.lo t.hi).size := by
    refine find_at _ _ _ (by omega) c.1 c.2 (fun k a b => ?_) (by omega)
    have := hb.2 (k - (p + 1)) (by omega)
    rw [show p + 1 + (k - (p + 1)) = k by omega] at this
    rw [this]
    exact body_no h _ (by omega)
  unfold wordS
  rw [if_neg (by have : bt X p = 123 := a.2; omega), if_neg (by have : bt X p = 123 := a.2; omega), if_pos (show bt X p = 123 from a.2)]
  unfold bracesS
  rw [hf, braces_yes (by omega) hb.sub hn (body_bounds h)]
  unfold timesP
  congr 1
  omega

end Go.Proofs.Ytibmcdgnponpmaa

/- The text of a class is one word, its set. -/
namespace Go.Proofs.Ytibmcdgnponpmaa
open Go.RowKit
set_option linter.unusedSimpArgs false
set_option linter.unusedVariables false

theorem hexd_value : ∀ q : Fin 16, valueS ((hexd q.val).toNat : Int) = (q.val : Int) := by decide
theorem char_x {X own : ByteArray} {i b : Nat} (hb : b < 256) (h : Holds X i (xT b)) : charS X i own = ((b : Int), ((4 : Nat) : Int)) := by
  have hz : (xT b).size = 4 := xT_size b
  have h0 := holds_at (i := 0) h (by omega)
  have h1 := holds_at (i := 1) h (by omega)
  have h2 := holds_at (i := 2) h (by omega)
  have h3 := holds_at (i := 3) h (by omega)
  have s2 : (ByteArray.mk #[92, 120]).size = 2 := rfl
  have e0 : bt (xT b) 0 = 92 := by unfold xT; rw [bt_app, if_pos (by decide)]; decide
  have e1 : bt (xT b) 1 = 120 := by unfold xT; rw [bt_app, if_pos (by decide)]; decide
  have e2 : bt (xT b) 2 = (hexd (b / 16)).toNat := by unfold xT; rw [bt_app, if_neg (by decide)]; rfl
  have e3 : bt (xT b) 3 = (hexd (b % 16)).toNat := by unfold xT; rw [bt_app, if_neg (by decide)]; rfl
  rw [e0, Nat.add_zero] at h0
  rw [e1] at h1
  rw [e2] at h2
  rw [e3] at h3
  rw [char_esc h0.2 h1.1 h1.2]
  unfold escS
  rw [if_neg (by decide), if_neg (by decide), if_neg (by decide), if_neg (by decide), if_pos rfl, h2.2, h3.2]
  have v1 := hexd_value ⟨b / 16, by omega⟩
  have v2 := hexd_value ⟨b % 16, by omega⟩
  dsimp only at v1 v2
  rw [v1, v2, if_pos (by omega)]
  congr 1
  omega
theorem has_puts {c : St} (lo : Nat) : ∀ (n x : Nat), lo + n ≤ 256 → x < 256 → (puts c lo n).has x = (c.has x || (decide (lo ≤ x) && decide (x < lo + n)))
  | 0, x, _, _ => by
    have : (decide (lo ≤ x) && decide (x < lo + 0)) = false := by
      rw [Bool.and_eq_false_iff, decide_eq_false_iff_not, decide_eq_false_iff_not]; omega
    rw [this, Bool.or_false]; rfl
  | n + 1, x, h, hx => by
    rw [puts, has_put _ _ _ (by omega) hx, has_puts lo n x (by omega) hx]
    by_cases e : x = lo + n
    · subst e
      have : (decide (lo ≤ lo + n) && decide (lo + n < lo + (n + 1))) = true := by rw [Bool.and_eq_true, decide_eq_true_iff, decide_eq_true_iff]; omega
      rw [this, Bool.or_true, decide_eq_true (rfl : lo + n = lo + n), Bool.or_true]
    · rw [decide_eq_false e, Bool.or_false]
      congr 2
      rw [decide_eq_decide]; omega
theorem endOf_has {s : St} : ∀ (f e : Nat), s.has e = true → ∀ x, e ≤ x → x ≤ endOf s f e → s.has x = true
  | 0, e, h, x, h1, h2 => by
    have : endOf s 0 e = e := rfl
    obtain rfl : x = e := by omega
    exact h
  | f + 1, e, h, x, h1, h2 => by
    by_cases q : e < 255 ∧ s.has (e + 1) = true
    · rw [endOf, if_pos q] at h2
      by_cases e1 : x = e
      · subst e1; exact h
      · exact endOf_has f (e + 1) q.2 x (by omega) h2
    · rw [endOf, if_neg q] at h2
      obtain rfl : x = e := by omega
      exact h
theorem cls_first {s : St} (f : Nat) : ∀ b, bt (clsFrom s f b ++ ⟨#[93]⟩) 0 = 92 ∨ bt (clsFrom s f b ++ ⟨#[93]⟩) 0 = 93 := by
  induction f with
  | zero => intro b; right; rw [clsFrom, no_app]; decide
  | succ f ih =>
    intro b
    unfold clsFrom
    split
    · right; rw [no_app]; decide
    split
    · exact ih (b + 1)
    · left
      have hz : (xT b).size = 4 := xT_size b
      rw [app_app, bt_app, if_pos (by omega)]
      unfold xT
      rw [bt_app, if_pos (by decide)]; decide
theorem cls_read {s : St} (hs : s.Ok) : ∀ (f b : Nat) (c : St) (X : ByteArray) (i F : Nat), 256 < b + f → c.Ok → Holds X i (clsFrom s f b ++ ⟨#[93]⟩) → X.size < i + F →
    ∃ c', classFrom X F i c = some (c', i + (clsFrom s f b).size) ∧ c'.Ok ∧ ∀ x, x < 256 → c'.has x = (c.has x || (decide (b ≤ x) && s.has x)) := by
  intro f
  induction f with
  | zero =>
    intro b c X i F hb hc h hF
    rw [clsFrom, no_app] at h
    have a := h.one
    obtain ⟨F, rfl⟩ : ∃ F', F = F' + 1 := ⟨F - 1, by omega⟩
    refine ⟨c, ?_, hc, fun x hx => ?_⟩
    · rw [classFrom_end (Or.inr a.2)]; rfl
    · rw [decide_eq_false (by omega), Bool.false_and, Bool.or_false]
  | succ f ih =>
    intro b c X i F hb hc h hF
    by_cases hge : 256 ≤ b
    · rw [cls_end hge, no_app] at h
      have a := h.one
      obtain ⟨F, rfl⟩ : ∃ F', F = F' + 1 := ⟨F - 1, by omega⟩
      refine ⟨c, ?_, hc, fun x hx => ?_⟩
      · rw [classFrom_end (Or.inr a.2), cls_end hge]; rfl
      · rw [decide_eq_false (by omega), Bool.false_and, Bool.or_false]
    · cases hv : s.has b with
      | false =>
        rw [cls_no (by omega) hv] at h ⊢
        obtain ⟨c', h1, h2, h3⟩ := ih (b + 1) c X i F (by omega) hc h hF
        refine ⟨c', h1, h2, fun x hx => ?_⟩
        rw [h3 x hx]
        by_cases e : x = b
        · subst e; rw [hv, Bool.and_false, Bool.and_false]
        · congr 2
          rw [decide_eq_decide]; omega
      | true =>
        obtain ⟨E, hE⟩ : ∃ E, endOf s 256 b = E := ⟨_, rfl⟩
        have hEb := endOf_bounds s 256 b (by omega)
        have hEh := endOf_has (s := s) 256 b hv
        rw [hE] at hEb hEh
        have key : ∀ c' : St, (∀ x, x < 256 → c'.has x = ((puts c b (E + 1 - b)).has x || (decide (E + 1 ≤ x) && s.has x))) → ∀ x, x < 256 → c'.has x = (c.has x || (decide (b ≤ x) && s.has x)) := by
          intro c' h3 x hx
          rw [h3 x hx, has_puts b _ x (by omega) hx, Bool.or_assoc]
          congr 1
          by_cases q1 : b ≤ x
          · by_cases q2 : x ≤ E
            · rw [hEh x q1 q2, decide_eq_true q1, decide_eq_true (show x < b + (E + 1 - b) by omega)]; rfl
            · rw [decide_eq_false (show ¬ x < b + (E + 1 - b) by omega), Bool.and_false, Bool.false_or, decide_eq_true (show E + 1 ≤ x by omega), decide_eq_true q1]
          · rw [decide_eq_false q1, decide_eq_false (show ¬ E + 1 ≤ x by omega)]; rfl
        by_cases hlt : b < E
        · rw [cls_two (by omega) hv hE hlt] at h ⊢
          rw [app_app, app_app, Holds.app, Holds.app] at h
          obtain ⟨ha, hd, hr⟩ := h
          have hz : (xT b).size = 4 := xT_size b
          have hz2 : (dxT E).size = 5 := dxT_size E
          have hzE : (xT E).size = 4 := xT_size E
          have hsplit : dxT E = ⟨#[45]⟩ ++ xT E := by unfold dxT xT; rw [← app_app]; rfl
          have h92 := holds_at (i := 0) ha (by omega)
          have e92 : bt (xT b) 0 = 92 := by unfold xT; rw [bt_app, if_pos (by decide)]; decide
          rw [e92, Nat.add_zero] at h92
          rw [hz] at hd hr
          rw [hsplit, Holds.app] at hd
          obtain ⟨hm, hx⟩ := hd
          have m := hm.one
          have s1 : (ByteArray.mk #[45]).size = 1 := rfl
          rw [s1] at hx
          obtain ⟨F, rfl⟩ : ∃ F', F = F' + 1 := ⟨F - 1, by omega⟩
          obtain ⟨c', h1, h2, h3⟩ := ih (E + 1) (puts c b (E + 1 - b)) X (i + 4 + 1 + 4) F (by omega) (puts_ok hc _ _) (by rw [hz2] at hr; exact hr) (by omega)
          refine ⟨c', ?_, h2, key c' h3⟩
          rw [classFrom_two (by omega) (char_x (by omega) ha) (by omega) ⟨m.1, m.2⟩ (char_x (by omega) hx) (by omega) (by omega), h1, app_size, app_size, hz, hz2]
          congr 2
          omega
        · rw [cls_one (by omega) hv hE hlt] at h ⊢
          rw [app_app, Holds.app] at h
          obtain ⟨ha, hr⟩ := h
          have hz : (xT b).size = 4 := xT_size b
          have h92 := holds_at (i := 0) ha (by omega)
          have e92 : bt (xT b) 0 = 92 := by unfold xT; rw [bt_app, if_pos (by decide)]; decide
          rw [e92, Nat.add_zero] at h92
          rw [hz] at hr
          have hq := holds_at (i := 0) hr (by rw [app_size]; show 0 < _ + 1; omega)
          have hf := cls_first (s := s) f (E + 1)
          rw [Nat.add_zero] at hq
          obtain ⟨F, rfl⟩ : ∃ F', F = F' + 1 := ⟨F - 1, by omega⟩
          obtain rfl : E = b := by omega
          rw [show E + 1 - E = 1 by omega] at key
          obtain ⟨c', h1, h2, h3⟩ := ih (E + 1) (puts c E 1) X (i + 4) F (by omega) (puts_ok hc _ _) hr (by omega)
          refine ⟨c', ?_, h2, key c' h3⟩
          rw [classFrom_one (by omega) (char_x (by omega) ha) (by omega) (by omega), h1, app_size, hz]
          congr 2
          omega
theorem lex_class {s : St} (hs : s.Ok) : LexP (clsT s, setW s) := by
  have e : clsT s = ⟨#[91]⟩ ++ (clsFrom s 257 0 ++ ⟨#[93]⟩) := app_app _ _ _
  have hz : (clsT s).size = (clsFrom s 257 0).size + 2 := by rw [e, app_size, app_size]; show 1 + (_ + 1) = _; omega
  have h0 : bt (clsT s) 0 = 91 := by rw [e, bt_app, if_pos (by decide)]; decide
  refine ⟨by show 0 < (clsT s).size; omega, by show bt (clsT s) 0 ≠ 63; rw [h0]; decide, by show blankS (bt (clsT s) 0) = false; rw [h0]; decide, fun X p hX _ => ?_⟩
  show wordS X p = (setW s, ((clsT s).size : Int))
  have hX' : Holds X p (clsT s) := hX
  rw [e, Holds.app] at hX'
  obtain ⟨ha, hr⟩ := hX'
  have a := ha.one
  have s1 : (ByteArray.mk #[91]).size = 1 := rfl
  rw [s1] at hr
  have hq := holds_at (i := 0) hr (by rw [app_size]; show 0 < _ + 1; omega)
  rw [Nat.add_zero] at hq
  have hf := cls_first (s := s) 257 0
  obtain ⟨c', h1, h2, h3⟩ := cls_read hs 257 0 emptyC X (p + 1) (X.size + 1) (by omega) emptyC_ok hr (by omega)
  have hcs : c' = s := St.ext_has h2 hs fun x hx => by
    rw [h3 x hx, decide_eq_true (Nat.zero_le _), Bool.true_and]
    have : emptyC.has x = false := by
      unfold St.has emptyC St.word
      (repeat' split) <;> simp
    rw [this, Bool.false_or]
  have hlast := hr
  rw [Holds.app] at hlast
  have l := hlast.2.one
  unfold wordS
  rw [if_neg (by have : bt X p = 91 := a.2; omega), if_pos (show bt X p = 91 from a.2), cls_is (by omega) h1 (by omega), hcs, hz]
  dsimp only
  congr 1
  omega

end Go.Proofs.Ytibmcdgnponpmaa

/- What the reference's Open answers: how many brackets and ~s are open at most. -/
namespace Go.Proofs.Ytibmcdgnponpmaa
open Go.RowKit
set_option linter.unusedSimpArgs false
set_option linter.unusedVariables false

def opensS : Nat → Tr → Int
  | 0, _ => 0
  | k + 1, t => maxl (t.parts.map (fun p => opensS k p + 1)) + (if t.kind = 6 ∨ t.kind = 1 then 1 else 0)
def opensTo (k : Nat) (t : Tr) (j : Nat) : Int := maxl ((t.parts.take j).map (fun p => opensS k p + 1))
theorem opensTo_zero (k : Nat) (t : Tr) : opensTo k t 0 = 0 := rfl
theorem opensTo_succ (k : Nat) (t : Tr) (j : Nat) (h : j < t.parts.length) : opensTo k t (j + 1) = max (opensTo k t j) (opensS k t.parts[j] + 1) := by
  unfold opensTo; rw [List.take_succ_eq_append_getElem h, List.map_append, List.map_singleton, maxl_snoc]
theorem opensS_bounds : ∀ (k : Nat) (t : Tr), 0 ≤ opensS k t ∧ opensS k t ≤ 2 * k
  | 0, _ => ⟨Int.le_refl _, by show (0 : Int) ≤ _; omega⟩
  | k + 1, t => by
    have h0 := maxl_ge (t.parts.map (fun p => opensS k p + 1))
    have h1 := maxl_le (t.parts.map (fun p => opensS k p + 1)) (2 * k + 1) (by omega) (by
      intro x hx
      rw [List.mem_map] at hx
      obtain ⟨p, _, rfl⟩ := hx
      have := opensS_bounds k p
      omega)
    unfold opensS
    split <;> omega
theorem opensTo_bounds (k : Nat) (t : Tr) (j : Nat) : 0 ≤ opensTo k t j ∧ opensTo k t j ≤ 2 * k + 1 := by
  refine ⟨maxl_ge _, maxl_le _ _ (by omega) fun x hx => ?_⟩
  rw [List.mem_map] at hx
  obtain ⟨p, _, rfl⟩ := hx
  have := opensS_bounds k p
  omega
theorem opensTo_all (k : Nat) (t : Tr) : opensTo k t t.parts.length + (if t.kind = 6 ∨ t.kind = 1 then 1 else 0) = opensS (k + 1) t := by unfold opensTo; rw [List.take_length]; rfl

set_option maxRecDepth 100000 in
set_option maxHeartbeats 2000000 in
theorem refOpen : ∀ (k : Nat) (t : Tr) (w : World), k ≤ 1000 → Tr.In w k t →
    Calls Try.prog 9 #[.agg t.cs.toArray] w fun e w' => e = .returned (.int .i64 (opensS k t)) ∧ Below w.heap.size w w'
  | 0, _, _, _, h => h.elim
  | k + 1, t, w, hk, h => by
    have hlen : t.parts.length ≤ 9223372036854775807 := by have := h.2.1; omega
    have hn := h.2.1.1
    have HI := Lib.hid h
    have HC := Lib.hid (At.tr_cell (At.new w 28 t.cs.toArray))
    clear h
    have hcell := HC.out.2.1
    rw [hn] at hcell
    go_enter Try.func9, Try.ntmps9
    go_wp2_with fail
    go_loopw [3, 8] (fun x i wr => ∃ j : Nat, j ≤ t.parts.length ∧ i = .int .i64 j ∧ x = .int .i64 (opensTo k t j) ∧ Hid (At wr w.heap.size 28 t.cs.toArray) ∧ Hid (Below w.heap.size w wr)) (fun _ i _ => t.parts.length - (intOf i).toNat)
    case atStart => exact ⟨0, Nat.zero_le _, rfl, by rw [opensTo_zero], Lib.hid (At.new _ _ _), Lib.hid ((Below.refl _ _).alloc (Nat.le_refl _) _)⟩
    case round =>
      obtain ⟨j, hj, rfl, rfl, hA, hB⟩ := hrel
      clear hcell
      have hcell := (At.tr_cell hA.out).2.1
      have hc0 := (At.tr_cell hA.out).1
      rw [hn] at hcell
      have hd := opensTo_bounds k t j
      by_cases hlt : j < t.parts.length
      · obtain ⟨b, off, ha, hb, hr⟩ := HI.out.2.2.1 (by rw [hn]; omega)
        have HR := Lib.hid (range_below (hr j hlt) hb (Nat.le_refl _) hB.out)
        have HP := Lib.hid (Tr.In.next (HI.out.2.2.2 j hlt) hB.out)
        have HD := Lib.hid (opensTo_succ k t j hlt)
        have he := opensS_bounds k t.parts[j]
        obtain ⟨x, hx⟩ : ∃ x : Int, opensTo k t j = x := ⟨_, rfl⟩
        obtain ⟨y, hy⟩ : ∃ y : Int, opensS k t.parts[j] = y := ⟨_, rfl⟩
        rw [hx] at hd HD ⊢
        rw [hy] at he HD
        have HY := Lib.hid hy
        clear hx hy hr hb
        rw [ha] at hcell
        clear ha
        have hjz : (0 : Int) ≤ (j : Int) := by omega
        have hjn : (j : Int) < (t.parts.length : Int) := by omega
        have hw1 : IntKind.i64.wrap (y + 1) = y + 1 := by rw [IntKind.wrap_i64]; omega
        go_wp2_with (refine wpList_load_mid rfl 28 _ rfl b (off + j * 9) rfl t.parts[j].cs _ HR.out Try.underlying28 rfl (by rw [Tr.cs_length]; kernel_rfl) ?_)
        refine (refOpen k t.parts[j] _ (by omega) HP.out).mono ?_
        rintro e w3 ⟨rfl, hb3⟩
        rw [HY.out]
        have HA := Lib.hid (hA.out.step hb3 rfl)
        have HB := Lib.hid (below_step hB.out hb3 rfl rfl rfl rfl)
        clear hb3 hcell hc0
        go_wp2_with fail
        exact ⟨⟨j + 1, by omega, by go_num, by first | (rw [HD.out]; done) | (rw [HD.out]; rfl) | (rw [HD.out]; go_num), HA, HB⟩, by simp [intOf]; omega⟩
      · obtain rfl : j = t.parts.length := by omega
        have hS := Lib.hid (opensTo_all k t)
        have hb := opensTo_bounds k t t.parts.length
        by_cases h6 : t.kind = 6
        · have HS : Hid (opensTo k t t.parts.length + 1 = opensS (k + 1) t) := by have := hS.out; rw [if_pos (Or.inl h6)] at this; exact this
          rw [h6] at hc0
          go_wp2_with fail
          go_ret
          exact ⟨by rw [← HS.out]; rfl, hB.out⟩
        · by_cases h1 : t.kind = 1
          · have HS : Hid (opensTo k t t.parts.length + 1 = opensS (k + 1) t) := by have := hS.out; rw [if_pos (Or.inr h1)] at this; exact this
            rw [h1] at hc0
            go_wp2_with fail
            go_ret
            exact ⟨by rw [← HS.out]; rfl, hB.out⟩
          · have HS : Hid (opensTo k t t.parts.length = opensS (k + 1) t) := by have := hS.out; rw [if_neg (by omega), Int.add_zero] at this; exact this
            have k6 := (int_ne h6).1
            have k1 := (int_ne h1).1
            go_wp2_with fail
            go_ret
            exact ⟨by rw [← HS.out]; rfl, hB.out⟩

end Go.Proofs.Ytibmcdgnponpmaa

/- What the parser reads without names is plain: no None, and no row of one or none. -/
namespace Go.Proofs.Ytibmcdgnponpmaa
open Go.RowKit
set_option linter.unusedSimpArgs false
set_option linter.unusedVariables false

def plainN : Nat → Tr → Prop
  | 0, _ => True
  | k + 1, t => t.kind ≠ 0 ∧ (t.kind = 3 ∨ t.kind = 4 ∨ t.kind = 5 → 2 ≤ t.parts.length) ∧ ∀ p ∈ t.parts, plainN k p
def PlT (T : Tr) : Prop := ∀ k, plainN k T
theorem plt_node {kd : Int} {l : List Tr} {lo hi : Int} {neg : Bool} (h0 : kd ≠ 0) (h1 : kd = 3 ∨ kd = 4 ∨ kd = 5 → 2 ≤ l.length) (h : ∀ p ∈ l, PlT p) : PlT (nodeT kd l lo hi neg)
  | 0 => trivial
  | k + 1 => ⟨h0, h1, fun p hp => h p hp k⟩
theorem plt_leaf {kd : Int} {set : St} {neg : Bool} (h0 : kd ≠ 0) (h1 : ¬ (kd = 3 ∨ kd = 4 ∨ kd = 5)) : PlT (leafT kd set neg)
  | 0 => trivial
  | k + 1 => ⟨h0, fun q => absurd q h1, fun p hp => absurd hp List.not_mem_nil⟩
theorem plt_join {kd : Int} {l : List Tr} (h0 : kd ≠ 0) (hl : l.length ≠ 0) (h : ∀ p ∈ l, PlT p) : PlT (joinS kd l) := by
  unfold joinS
  split
  · exact h _ (by simp)
  · rename_i hh
    refine plt_node h0 (fun _ => ?_) h
    match l, hl with
    | [t], _ => exact absurd rfl (hh t)
    | a :: b :: r, _ => simp
def PB (n : Nat) (m : PSt → Tr × PSt) : Prop := ∀ s, s.ws.length < n → (m s).2.flt = 0 → PlT (m s).1
section
variable {W E n : Nat} {m : PSt → Tr × PSt}
theorem nots_pb (h : PB n m) (hm : MB W 0 n m) (hg : PGood n m) : ∀ (f : Nat) (l : List Tr) (s : PSt), s.ws.length < n → (nots E m f l s).2.flt = 0 → (∀ p ∈ l, PlT p) → ∀ p ∈ (nots E m f l s).1, PlT p
  | 0, l, s, _, _, hl => hl
  | f + 1, l, s, hs, hf, hl => by
    unfold nots at hf ⊢
    split at hf
    · rename_i hb
      rw [if_pos hb]
      have hs2 := Nat.lt_of_le_of_lt (hg s hs).1.length_le hs
      have h2 := nots_mb hm hg f _ (m s).2 hs2 hf
      refine nots_pb h hm hg f _ (m s).2 hs2 hf fun p hp => ?_
      rcases List.mem_append.1 hp with hp | hp
      · exact hl p hp
      · have : p = (m s).1 := by simpa using hp
        subst this
        exact h s hs h2.1
    · rename_i hb
      rw [if_neg hb]; exact hl
theorem cat_pb {f : Nat} (h : PB n m) (hm : MB W 0 n m) (hg : PGood n m) : PB n (catS E m f) := fun s hs hf => by
  have h1 := nots_pb (E := E) h hm hg f [] s hs hf (fun p hp => absurd hp List.not_mem_nil)
  unfold catS
  dsimp only
  split
  · exact plt_leaf (by decide) (by decide)
  · exact plt_join (by decide) (by assumption) h1
theorem rest_pb {sg : Int} (hsg : sg ≠ 11 ∧ sg ≠ 0) (h : PB n m) (hm : MB W 1 n m) (hg : PGood n m) : ∀ (f : Nat) (l : List Tr) (s : PSt), s.ws.length < n → (restS E sg m f l s).2.flt = 0 → (∀ p ∈ l, PlT p) → ∀ p ∈ (restS E sg m f l s).1, PlT p
  | 0, l, s, _, _, hl => hl
  | f + 1, l, s, hs, hf, hl => by
    unfold restS at hf ⊢
    split at hf
    · rename_i hb
      rw [if_pos hb]
      have hn := Nat.lt_of_le_of_lt (next_ws s).length_le hs
      have hs2 := Nat.lt_of_le_of_lt (hg (nextS s) hn).1.length_le hn
      have h2 := rest_mb hsg hm hg f _ (m (nextS s)).2 hs2 hf
      refine rest_pb hsg h hm hg f _ (m (nextS s)).2 hs2 hf fun p hp => ?_
      rcases List.mem_append.1 hp with hp | hp
      · exact hl p hp
      · have : p = (m (nextS s)).1 := by simpa using hp
        subst this
        exact h (nextS s) hn h2.1
    · rename_i hb
      rw [if_neg hb]; exact hl
theorem between_pb {f : Nat} {sg kd : Int} (hsg : sg ≠ 11 ∧ sg ≠ 0) (hkd : kd ≠ 0) (h : PB n m) (hm : MB W 1 n m) (hg : PGood n m) : PB n (betweenS E sg kd m f) := fun s hs hf => by
  have hf' : (restS E sg m f [(m s).1] (m s).2).2.flt = 0 := hf
  have hs2 := Nat.lt_of_le_of_lt (hg s hs).1.length_le hs
  have h2 := rest_mb (E := E) hsg hm hg f [(m s).1] (m s).2 hs2 hf'
  have h1 := rest_pb (E := E) hsg h hm hg f [(m s).1] (m s).2 hs2 hf' (fun p hp => by
    have : p = (m s).1 := by simpa using hp
    subst this
    exact h s hs h2.1)
  have d := rest_long (E := E) (m := m) (sg := sg) f [(m s).1] (m s).2
  rw [List.length_singleton] at d
  exact plt_join hkd (by omega) h1
theorem or_pb {f : Nat} (h : PB n m) (hm : MB W 0 n m) (hg : PGood n m) : PB n (orS E m f) :=
  between_pb ⟨by decide, by decide⟩ (by decide) (between_pb ⟨by decide, by decide⟩ (by decide) (cat_pb h hm hg) (cat_mb hm hg) (cat_good hg)) (between_mb ⟨by decide, by decide⟩ (cat_mb hm hg) (cat_good hg)) (between_good (cat_good hg))
theorem bracket_pb {f : Nat} (h : PB n (orS E m f)) (p : Nat) (s : PSt) (hs : s.ws.length < n) (hf : (bracketS E m f p s).2.flt = 0) : PlT (bracketS E m f p s).1 := by
  unfold bracketS at hf ⊢
  dsimp only at hf ⊢
  split at hf
  · exact h (enterS p s) (Nat.lt_of_le_of_lt (enter_ws p s).length_le hs) hf
  · exact absurd hf (fail_flt _ _ _ (by decide))
theorem atom_pb {f : Nat} (h : PB n (orS E m f)) : PB (n + 1) (atomS E [] m f) := fun s hs hf => by
  obtain ⟨x, hx⟩ : ∃ x, peekS E s = x := ⟨_, rfl⟩
  have hlen : x.1.kind ≠ 0 → (nextS s).ws.length < n := fun hk => by
    have e := peek_some hx hk
    have e2 : s.ws.length = (nextS s).ws.length + 1 := by rw [e]; simp
    omega
  unfold atomS at hf ⊢
  dsimp only at hf ⊢
  rw [hx] at hf ⊢
  split at hf
  · rename_i h1; rw [if_pos h1]; exact plt_leaf (by decide) (by decide)
  rename_i h1; rw [if_neg h1]
  split at hf
  · exact absurd hf (fail_flt _ _ _ (by decide))
  rename_i h2; rw [if_neg h2]
  split at hf
  · rename_i h3; rw [if_pos h3]; exact plt_leaf (by decide) (by decide)
  rename_i h3; rw [if_neg h3]
  split at hf
  · rename_i h4; rw [if_pos h4]; exact plt_leaf (by decide) (by decide)
  rename_i h4; rw [if_neg h4]
  split at hf
  · rename_i h5; rw [if_pos h5]; exact bracket_pb h _ _ (hlen (by omega)) hf
  rename_i h5; rw [if_neg h5]
  split at hf
  · rename_i h6; rw [if_pos h6]
    have := bracket_pb h x.2 (nextS s) (hlen (by omega)) hf
    exact plt_node (by decide) (fun q => absurd q (by decide)) (fun p hp => by
      have e : p = (bracketS E m f x.2 (nextS s)).1 := by simpa using hp
      rw [e]; exact this)
  rename_i h6; rw [if_neg h6]
  split at hf
  · rename_i h7; rw [if_pos h7]
    have := bracket_pb h x.2 (nextS s) (hlen (by omega)) hf
    exact plt_node (by decide) (fun q => absurd q (by decide)) (fun p hp => by
      have e : p = (bracketS E m f x.2 (nextS s)).1 := by simpa using hp
      rw [e]; exact this)
  · exact absurd hf (fail_flt _ _ _ (by decide))
theorem posts_pb (hW : 2 ≤ W) : ∀ (f : Nat) (t : Tr) (s : PSt), PlT t → (postsS E f t s).2.flt = 0 → PlT (postsS E f t s).1
  | 0, t, s, ht, _ => ht
  | f + 1, t, s, ht, hf => by
    unfold postsS at hf ⊢
    split at hf
    · rename_i hb
      rw [if_pos hb]
      exact posts_pb hW f _ (nextS s) (plt_node (by decide) (fun q => absurd q (by decide)) (fun p hp => by
        have e : p = t := by simpa using hp
        rw [e]; exact ht)) hf
    · rename_i hb
      rw [if_neg hb]; exact ht
end
theorem not_pb {E : Nat} : ∀ f, PB f (notS E [] f)
  | 0 => fun s hs => absurd hs (Nat.not_lt_zero _)
  | f + 1 => fun s hs hf => by
    have ih := not_pb (E := E) f
    have hg := (not_good (E := E) (ds := []) f).1
    have hm := not_mb (W := 2) (E := E) (ds := []) (fun d hd => absurd hd List.not_mem_nil) (Nat.le_refl _) f
    by_cases h6 : (peekS E s).1.kind = 6
    · have e : notS E [] (f + 1) s = (nodeT 6 [(notS E [] f (enterS (peekS E s).2 (nextS s))).1] 0 0 false, leaveS (notS E [] f (enterS (peekS E s).2 (nextS s))).2) := if_pos h6
      rw [e] at hf ⊢
      have hp := peek_some (E := E) (s := s) rfl (by omega)
      have e2 : s.ws.length = (nextS s).ws.length + 1 := by rw [hp]; simp
      have h1 := ih (enterS (peekS E s).2 (nextS s)) (by have := (enter_ws (peekS E s).2 (nextS s)).length_le; omega) hf
      exact plt_node (by decide) (fun q => absurd q (by decide)) (fun p hp => by
        have e : p = (notS E [] f (enterS (peekS E s).2 (nextS s))).1 := by simpa using hp
        rw [e]; exact h1)
    · have e : notS E [] (f + 1) s = postS E [] (notS E [] f) (f + 1) s := if_neg h6
      rw [e] at hf ⊢
      have ho := or_pb (E := E) (f := f + 1) ih hm hg
      have h2 := posts_mb (W := 2) (E := E) (Nat.le_refl _) (f + 1) (atomS E [] (notS E [] f) (f + 1) s).1 (atomS E [] (notS E [] f) (f + 1) s).2 hf
      exact posts_pb (W := 2) (Nat.le_refl _) (f + 1) _ _ (atom_pb ho s hs h2.1) hf
theorem pS_plain (s : ByteArray) (hf : (pS s []).2.flt = 0) : PlT (pS s []).1 := by
  have h := or_pb (E := s.size) (f := (wordsS s).1.length + 1) (not_pb ((wordsS s).1.length + 1)) (not_mb (W := 2) (fun d hd => absurd hd List.not_mem_nil) (Nat.le_refl _) ((wordsS s).1.length + 1)) (not_good (E := s.size) (ds := []) ((wordsS s).1.length + 1)).1
  unfold pS wholeS at hf ⊢
  dsimp only at hf ⊢
  split at hf
  · exact h ⟨(wordsS s).1, 0, 0, 0⟩ (Nat.lt_succ_self _) hf
  · exact absurd hf (fail_flt _ _ _ (by decide))

end Go.Proofs.Ytibmcdgnponpmaa

/- A plain pattern's text is read as the pattern. No program is walked here. -/
namespace Go.Proofs.Ytibmcdgnponpmaa
open Go.RowKit
set_option linter.unusedSimpArgs false
set_option linter.unusedVariables false

def places : Nat → List Pc → List (Wd × Nat)
  | _, [] => []
  | p, x :: r => (x.2, p) :: places (p + x.1.size) r
theorem places_fst : ∀ (l : List Pc) (p : Nat), (places p l).map Prod.fst = l.map Prod.snd
  | [], _ => rfl
  | x :: r, p => by rw [places, List.map_cons, List.map_cons, places_fst r]
theorem words_cat : ∀ (l : List Pc), (∀ x ∈ l, LexP x) → ∀ (X : ByteArray) (p f : Nat), Holds X p (catB l) → p + (catB l).size = X.size → (catB l).size < f → wordsFrom X f p = (places p l, -1)
  | [], _, X, p, f, h, hp, hf => by
    obtain ⟨f, rfl⟩ : ∃ f', f = f' + 1 := ⟨f - 1, by omega⟩
    exact words_end (by have : (catB []).size = 0 := rfl; omega)
  | x :: r, hl, X, p, f, h, hp, hf => by
    have hx := hl x (by simp)
    have h0 := hx.some
    rw [catB, Holds.app] at h
    rw [catB, app_size] at hp hf
    obtain ⟨ha, hr⟩ := h
    have a := holds_at (i := 0) ha h0
    rw [Nat.add_zero] at a
    have hn : bt X (p + x.1.size) ≠ 63 := by
      cases r with
      | nil =>
        have : (catB []).size = 0 := rfl
        unfold bt
        rw [dif_neg (by omega)]
        decide
      | cons y q =>
        have hy := hl y (by simp)
        rw [catB, Holds.app] at hr
        have b := holds_at (i := 0) hr.1 hy.some
        rw [Nat.add_zero] at b
        rw [b.2]; exact hy.head
    obtain ⟨f, rfl⟩ : ∃ f', f = f' + 1 := ⟨f - 1, by omega⟩
    rw [words_one (by omega) (by rw [a.2]; exact hx.ink) (hx.word X p ha hn) h0, words_cat r (fun y hy => hl y (List.mem_cons_of_mem _ hy)) X (p + x.1.size) f hr (by omega) (by omega)]
    rfl

/- Which patterns are written and read so. -/
inductive Rd : Nat → Tr → Prop
  | empty (k : Nat) : Rd (k + 1) (leafT 1 ⟨0, 0, 0, 0⟩ false)
  | bytes (k : Nat) (s : St) (hs : s.Ok) : Rd (k + 1) (leafT 2 s false)
  | mark (k : Nat) (kd : Int) (h : kd = 10 ∨ kd = 11) : Rd (k + 1) (leafT kd ⟨0, 0, 0, 0⟩ false)
  | row (k : Nat) (kd : Int) (l : List Tr) (h : kd = 3 ∨ kd = 4 ∨ kd = 5) (hl : 2 ≤ l.length) (hp : ∀ p ∈ l, Rd k p) : Rd (k + 1) (nodeT kd l 0 0 false)
  | not (k : Nat) (p : Tr) (hp : Rd k p) : Rd (k + 1) (nodeT 6 [p] 0 0 false)
  | times (k : Nat) (p : Tr) (lo hi : Int) (h : 0 ≤ lo ∧ lo ≤ 20 ∧ (hi = -1 ∨ (lo ≤ hi ∧ 1 ≤ hi ∧ hi ≤ 20))) (hp : Rd k p) : Rd (k + 1) (nodeT 7 [p] lo hi false)
  | look (k : Nat) (kd : Int) (p : Tr) (neg : Bool) (h : kd = 8 ∨ kd = 9) (hp : Rd k p) : Rd (k + 1) (nodeT kd [p] 0 0 neg)
theorem pieces_row (k : Nat) (kd : Int) (l : List Tr) (h : kd = 3 ∨ kd = 4 ∨ kd = 5) : piecesT (k + 1) (nodeT kd l 0 0 false) = rowP (sepP kd) (l.map (piecesT k)) := by
  rcases h with rfl | rfl | rfl <;> (show [] ++ rowP _ _ ++ [] = _; rw [List.append_nil, List.nil_append]; rfl)
theorem lex_brk {l : List Pc} (h : ∀ x ∈ l, LexP x) : ∀ x ∈ brkP l, LexP x := by
  intro x hx
  unfold brkP at hx
  rcases List.mem_cons.1 hx with rfl | hx
  · exact lex_open
  rcases List.mem_append.1 hx with hx | hx
  · exact h x hx
  · obtain rfl : x = signP 41 3 := by simpa using hx
    exact lex_close
theorem lex_tail {sep : List Pc} (hs : ∀ x ∈ sep, LexP x) : ∀ {l : List (List Pc)}, (∀ y ∈ l, ∀ x ∈ y, LexP x) → ∀ x ∈ tailP sep l, LexP x
  | [], _, x, hx => absurd hx List.not_mem_nil
  | y :: r, h, x, hx => by
    rw [tailP] at hx
    rcases List.mem_append.1 hx with hx | hx
    · rcases List.mem_append.1 hx with hx | hx
      · exact hs x hx
      · exact lex_brk (h y (by simp)) x hx
    · exact lex_tail hs (fun y hy => h y (List.mem_cons_of_mem _ hy)) x hx
theorem lex_row {sep : List Pc} (hs : ∀ x ∈ sep, LexP x) {l : List (List Pc)} (h : ∀ y ∈ l, ∀ x ∈ y, LexP x) : ∀ x ∈ rowP sep l, LexP x := by
  cases l with
  | nil => exact fun x hx => absurd hx List.not_mem_nil
  | cons y r =>
    intro x hx
    rw [rowP] at hx
    rcases List.mem_append.1 hx with hx | hx
    · exact lex_brk (h y (by simp)) x hx
    · exact lex_tail hs (fun y hy => h y (List.mem_cons_of_mem _ hy)) x hx
theorem lex_sep (kd : Int) : ∀ x ∈ sepP kd, LexP x := by
  intro x hx
  unfold sepP at hx
  split at hx
  · obtain rfl : x = signP 124 4 := by simpa using hx
    exact lex_bar
  split at hx
  · obtain rfl : x = signP 38 5 := by simpa using hx
    exact lex_both
  · exact absurd hx List.not_mem_nil
theorem pieces_not (k : Nat) (p : Tr) : piecesT (k + 1) (nodeT 6 [p] 0 0 false) = signP 126 6 :: brkP (piecesT k p) := by
  show [signP 126 6] ++ rowP [] [piecesT k p] ++ [] = _
  rw [List.append_nil, rowP, tailP, List.append_nil]; rfl
theorem pieces_times (k : Nat) (p : Tr) (lo hi : Int) : piecesT (k + 1) (nodeT 7 [p] lo hi false) = brkP (piecesT k p) ++ [timesP lo hi] := by
  show [] ++ rowP [] [piecesT k p] ++ [timesP lo hi] = _
  rw [List.nil_append, rowP, tailP, List.append_nil]
theorem pieces_look (k : Nat) (kd : Int) (p : Tr) (neg : Bool) (h : kd = 8 ∨ kd = 9) : piecesT (k + 1) (nodeT kd [p] 0 0 neg) = lookP kd neg :: (piecesT k p ++ [signP 41 3]) := by
  rcases h with rfl | rfl <;> rfl
theorem pieces_mark (k : Nat) (kd : Int) (h : kd = 10 ∨ kd = 11) : piecesT (k + 1) (leafT kd ⟨0, 0, 0, 0⟩ false) = [if kd = 10 then signP 94 16 else signP 36 17] := by
  rcases h with rfl | rfl <;> rfl
theorem rd_lex : ∀ {k : Nat} {t : Tr}, Rd k t → ∀ x ∈ piecesT k t, LexP x := by
  intro k t h
  induction h with
  | empty k =>
    intro x hx
    have hx' : x ∈ [signP 40 2, signP 41 3] := hx
    rcases List.mem_cons.1 hx' with rfl | hx'
    · exact lex_open
    · obtain rfl : x = signP 41 3 := by simpa using hx'
      exact lex_close
  | bytes k s hs =>
    intro x hx
    have hx' : x ∈ [((clsT s, setW s) : Pc)] := hx
    obtain rfl : x = (clsT s, setW s) := by simpa using hx'
    exact lex_class hs
  | mark k kd h =>
    intro x hx
    rw [pieces_mark k kd h] at hx
    rcases h with rfl | rfl
    · obtain rfl : x = signP 94 16 := by simpa using hx
      exact lex_begin
    · obtain rfl : x = signP 36 17 := by simpa using hx
      exact lex_end
  | row k kd l h hl hp ih =>
    intro x hx
    rw [pieces_row k kd l h] at hx
    refine lex_row (lex_sep kd) (fun y hy => ?_) x hx
    obtain ⟨p, hpp, rfl⟩ := List.mem_map.1 hy
    exact ih p hpp
  | not k p hp ih =>
    intro x hx
    rw [pieces_not] at hx
    rcases List.mem_cons.1 hx with rfl | hx
    · exact lex_not
    · exact lex_brk ih x hx
  | times k p lo hi h hp ih =>
    intro x hx
    rw [pieces_times] at hx
    rcases List.mem_append.1 hx with hx | hx
    · exact lex_brk ih x hx
    · obtain rfl : x = timesP lo hi := by simpa using hx
      exact lex_times (t := nodeT 7 [p] lo hi false) h
  | look k kd p neg h hp ih =>
    intro x hx
    rw [pieces_look k kd p neg h] at hx
    rcases List.mem_cons.1 hx with rfl | hx
    · exact lex_look h neg
    rcases List.mem_append.1 hx with hx | hx
    · exact ih x hx
    · obtain rfl : x = signP 41 3 := by simpa using hx
      exact lex_close
/-- The words of such a text. -/
theorem words_text {k : Nat} {t : Tr} (h : Rd k t) (hs : (textS k t).size ≤ 10000) : wordsS (textS k t) = (places 0 (piecesT k t), 0, 0) := by
  have e := words_cat (piecesT k t) (rd_lex h) (textS k t) 0 ((textS k t).size + 1) (by rw [pieces_text]; exact Holds.self _) (by rw [pieces_text]; omega) (by rw [pieces_text]; omega)
  unfold wordsS
  rw [if_neg (by omega), e, if_neg (show ¬ (0 : Int) ≤ -1 by decide)]

/- What is read. -/
/-- The kind of the next word; 0: none comes. -/
def hk : List (Wd × Nat) → Int
  | [] => 0
  | x :: _ => x.1.kind
theorem peek_hk (E : Nat) (s : PSt) : (peekS E s).1.kind = hk s.ws := by
  unfold peekS hk
  cases s.ws <;> rfl
def timesK (k : Int) : Bool := decide (k = 7 ∨ k = 8 ∨ k = 9 ∨ k = 10)
theorem times_hk (E : Nat) (s : PSt) (h : timesK (hk s.ws) = false) : (timesW (peekS E s).1).2.2 = false := by
  have := of_decide_eq_false h
  rw [← peek_hk E s] at this
  unfold timesW
  rw [if_neg (by omega), if_neg (by omega), if_neg (by omega), if_neg (by omega)]
inductive Runs (m : PSt → Tr × PSt) (P : PSt → Prop) : PSt → List Tr → PSt → Prop
  | nil (s : PSt) : Runs m P s [] s
  | cons {s s1 s2 : PSt} {t : Tr} {l : List Tr} (h : P s) (hm : m s = (t, s1)) (hr : Runs m P s1 l s2) : Runs m P s (t :: l) s2
theorem nots_runs {E : Nat} {m : PSt → Tr × PSt} {s s2 : PSt} {l : List Tr} (h : Runs m (fun s => notBegins (hk s.ws) = true) s l s2) (h2 : notBegins (hk s2.ws) = false) : ∀ (f : Nat) (acc : List Tr), l.length ≤ f → nots E m f acc s = (acc ++ l, s2) := by
  induction h with
  | nil s =>
    intro f acc hf
    cases f with
    | zero => rw [nots, List.append_nil]
    | succ f => rw [nots, peek_hk, h2, if_neg Bool.false_ne_true, List.append_nil]
  | @cons s s1 s2 t l hp hm hr ih =>
    intro f acc hf
    obtain ⟨f, rfl⟩ : ∃ f', f = f' + 1 := ⟨f - 1, by rw [List.length_cons] at hf; omega⟩
    rw [nots, peek_hk, hp, if_pos rfl, hm, ih h2 f _ (by rw [List.length_cons] at hf; omega), List.append_assoc]; rfl
theorem rest_runs {E : Nat} {sg : Int} {g : PSt → Tr × PSt} {s s2 : PSt} {l : List Tr} (h : Runs (fun s => g (nextS s)) (fun s => hk s.ws = sg) s l s2) (h2 : hk s2.ws ≠ sg) : ∀ (f : Nat) (acc : List Tr), l.length ≤ f → restS E sg g f acc s = (acc ++ l, s2) := by
  induction h with
  | nil s =>
    intro f acc hf
    cases f with
    | zero => rw [restS, List.append_nil]
    | succ f => rw [restS, peek_hk, if_neg h2, List.append_nil]
  | @cons s s1 s2 t l hp hm hr ih =>
    intro f acc hf
    obtain ⟨f, rfl⟩ : ∃ f', f = f' + 1 := ⟨f - 1, by rw [List.length_cons] at hf; omega⟩
    have hm' : g (nextS s) = (t, s1) := hm
    rw [restS, peek_hk, if_pos hp, hm', ih h2 f _ (by rw [List.length_cons] at hf; omega), List.append_assoc]; rfl
theorem join_one (kd : Int) (t : Tr) : joinS kd [t] = t := rfl
theorem join_many {kd : Int} {l : List Tr} (h : 2 ≤ l.length) : joinS kd l = nodeT kd l 0 0 false := by
  match l, h with
  | a :: b :: r, _ => rfl
theorem cat_runs {E f : Nat} {m : PSt → Tr × PSt} {s s2 : PSt} {l : List Tr} (h : Runs m (fun s => notBegins (hk s.ws) = true) s l s2) (h2 : notBegins (hk s2.ws) = false) (hf : l.length ≤ f) : catS E m f s = (if l.length = 0 then leafT 1 ⟨0, 0, 0, 0⟩ false else joinS 3 l, s2) := by
  unfold catS
  rw [nots_runs h h2 f [] hf]; rfl
theorem cat_one {E f : Nat} {m : PSt → Tr × PSt} {s s2 : PSt} {t : Tr} (h1 : notBegins (hk s.ws) = true) (hm : m s = (t, s2)) (h2 : notBegins (hk s2.ws) = false) (hf : 1 ≤ f) : catS E m f s = (t, s2) :=
  cat_runs (Runs.cons h1 hm (Runs.nil s2)) h2 hf
theorem between_one {E f : Nat} {sg kd : Int} {g : PSt → Tr × PSt} {s s2 : PSt} {t : Tr} (hg : g s = (t, s2)) (h2 : hk s2.ws ≠ sg) : betweenS E sg kd g f s = (t, s2) := by
  unfold betweenS
  rw [hg, rest_runs (Runs.nil s2) h2 f [t] (Nat.zero_le _)]; rfl
theorem between_many {E f : Nat} {sg kd : Int} {g : PSt → Tr × PSt} {s s1 s2 : PSt} {t : Tr} {l : List Tr} (hg : g s = (t, s1)) (h : Runs (fun s => g (nextS s)) (fun s => hk s.ws = sg) s1 l s2) (h2 : hk s2.ws ≠ sg) (hl : 1 ≤ l.length) (hf : l.length ≤ f) : betweenS E sg kd g f s = (nodeT kd (t :: l) 0 0 false, s2) := by
  unfold betweenS
  rw [hg, rest_runs h h2 f [t] hf]
  exact congrArg (fun x => (x, s2)) (join_many (by rw [List.length_append, List.length_singleton]; omega))
/-- One of all levels. -/
theorem or_one {E f : Nat} {m : PSt → Tr × PSt} {s s2 : PSt} {t : Tr} (h1 : notBegins (hk s.ws) = true) (hm : m s = (t, s2)) (h2 : hk s2.ws = 0 ∨ hk s2.ws = 3) (hf : 1 ≤ f) : orS E m f s = (t, s2) := by
  unfold orS
  exact between_one (between_one (cat_one h1 hm (by rcases h2 with h2 | h2 <;> (rw [h2]; decide)) hf) (by omega)) (by omega)
theorem enter_ok {E : Int} {ws : List (Wd × Nat)} {op pl : Int} (h : op + 1 ≤ 40) : enterS E ⟨ws, op, 0, pl⟩ = ⟨ws, op + 1, 0, pl⟩ := by
  unfold enterS
  rw [if_neg (show ¬ op + 1 > 40 by omega)]
theorem leave_ok {ws : List (Wd × Nat)} {op pl : Int} : leaveS ⟨ws, op + 1, 0, pl⟩ = ⟨ws, op, 0, pl⟩ := by
  unfold leaveS
  congr 1
  show op + 1 - 1 = op
  omega
theorem bracket_ok {E f q : Nat} {m : PSt → Tr × PSt} {ws rest : List (Wd × Nat)} {y : Wd × Nat} {op pl : Int} {t : Tr} (hop : op + 1 ≤ 40) (hin : orS E m f ⟨ws, op + 1, 0, pl⟩ = (t, ⟨y :: rest, op + 1, 0, pl⟩)) (hy : y.1.kind = 3) : bracketS E m f q ⟨ws, op, 0, pl⟩ = (t, ⟨rest, op, 0, pl⟩) := by
  unfold bracketS
  dsimp only
  rw [enter_ok hop, hin]
  dsimp only
  rw [leave_ok, peek_hk, if_pos (show hk (y :: rest) = 3 from hy)]; rfl
theorem atom_bracket {E f : Nat} {m : PSt → Tr × PSt} {ws rest : List (Wd × Nat)} {x y : Wd × Nat} {op pl : Int} {t : Tr} (hx : x.1.kind = 2) (hop : op + 1 ≤ 40) (hin : orS E m f ⟨ws, op + 1, 0, pl⟩ = (t, ⟨y :: rest, op + 1, 0, pl⟩)) (hy : y.1.kind = 3) : atomS E [] m f ⟨x :: ws, op, 0, pl⟩ = (t, ⟨rest, op, 0, pl⟩) := by
  unfold atomS
  have hp : peekS E ⟨x :: ws, op, 0, pl⟩ = x := rfl
  dsimp only
  rw [hp, if_neg (by omega), if_neg (by omega), if_neg (by omega), if_neg (by omega), if_pos hx]
  exact bracket_ok hop hin hy
theorem posts_none {E f : Nat} {t : Tr} {s : PSt} (h : timesK (hk s.ws) = false) : postsS E f t s = (t, s) := by
  cases f with
  | zero => rfl
  | succ f => rw [postsS, times_hk E s h, if_neg Bool.false_ne_true]
theorem not_atom {E F : Nat} {s s2 : PSt} {t : Tr} (h6 : hk s.ws ≠ 6) (ha : atomS E [] (notS E [] F) (F + 1) s = (t, s2)) (h2 : timesK (hk s2.ws) = false) : notS E [] (F + 1) s = (t, s2) := by
  rw [notS, peek_hk, if_neg h6]
  unfold postS
  rw [ha]
  exact posts_none h2
theorem not_bracket {E F : Nat} {ws rest : List (Wd × Nat)} {x y : Wd × Nat} {op pl : Int} {t : Tr} (hx : x.1.kind = 2) (hop : op + 1 ≤ 40) (hin : orS E (notS E [] F) (F + 1) ⟨ws, op + 1, 0, pl⟩ = (t, ⟨y :: rest, op + 1, 0, pl⟩)) (hy : y.1.kind = 3) (h2 : timesK (hk rest) = false) :
    notS E [] (F + 1) ⟨x :: ws, op, 0, pl⟩ = (t, ⟨rest, op, 0, pl⟩) :=
  not_atom (by show x.1.kind ≠ 6; omega) (atom_bracket hx hop hin hy) h2
theorem maxl_has {x : Int} {l : List Int} (h : x ∈ l) : x ≤ maxl l := by
  unfold maxl
  have : ∀ (l : List Int) (a x : Int), (x ∈ l ∨ x ≤ a) → x ≤ l.foldl max a := by
    intro l
    induction l with
    | nil => intro a x h; rcases h with h | h; cases h; exact h
    | cons y r ih =>
      intro a x h
      rw [List.foldl_cons]
      refine ih _ _ ?_
      rcases h with h | h
      · rcases List.mem_cons.1 h with rfl | h
        · exact Or.inr (by omega)
        · exact Or.inl h
      · exact Or.inr (by omega)
  exact this l 0 x (Or.inl h)
theorem opens_part {k : Nat} {t p : Tr} (h : p ∈ t.parts) : opensS k p + 1 + (if t.kind = 6 ∨ t.kind = 1 then 1 else 0) ≤ opensS (k + 1) t := by
  have := maxl_has (x := opensS k p + 1) (l := t.parts.map (fun p => opensS k p + 1)) (List.mem_map.2 ⟨p, h, rfl⟩)
  rw [opensS]; omega
/-- The claim, of patterns of at most k levels. -/
def ReadsOr (E k : Nat) : Prop := ∀ (t : Tr), Rd k t → ∀ (F f : Nat) (a rest : List (Wd × Nat)) (op pl : Int), a.map Prod.fst = (piecesT k t).map Prod.snd → op + opensS k t ≤ 40 → (hk rest = 0 ∨ hk rest = 3) → a.length ≤ F → a.length ≤ f →
  orS E (notS E [] F) f ⟨a ++ rest, op, 0, pl⟩ = (t, ⟨rest, op, 0, pl⟩)
/-- A pattern in brackets is taken apart. -/
theorem brk_split {l : List Pc} {a : List (Wd × Nat)} (h : a.map Prod.fst = (brkP l).map Prod.snd) : ∃ x b y, a = x :: (b ++ [y]) ∧ x.1.kind = 2 ∧ y.1.kind = 3 ∧ b.map Prod.fst = l.map Prod.snd := by
  unfold brkP at h
  rw [List.map_cons, List.map_append, List.map_singleton] at h
  obtain ⟨x, r, rfl, hx, hr⟩ := List.map_eq_cons_iff.1 h
  obtain ⟨b, c, rfl, hb, hc⟩ := List.map_eq_append_iff.1 hr
  obtain ⟨y, rfl⟩ : ∃ y, c = [y] := List.length_eq_one_iff.1 (by have := congrArg List.length hc; simpa using this)
  refine ⟨x, b, y, rfl, by rw [hx]; rfl, ?_, hb⟩
  rw [List.map_singleton, List.cons.injEq] at hc
  rw [hc.1]; rfl
theorem not_part {E k F : Nat} (ih : ReadsOr E k) {p : Tr} (hp : Rd k p) {a rest : List (Wd × Nat)} {op pl : Int} (ha : a.map Prod.fst = (brkP (piecesT k p)).map Prod.snd) (hop : op + 1 + opensS k p ≤ 40) (hF : a.length ≤ F) (h2 : timesK (hk rest) = false) :
    hk (a ++ rest) = 2 ∧ notS E [] F ⟨a ++ rest, op, 0, pl⟩ = (p, ⟨rest, op, 0, pl⟩) := by
  obtain ⟨x, b, y, rfl, hx, hy, hb⟩ := brk_split ha
  rw [List.length_cons, List.length_append, List.length_singleton] at hF
  obtain ⟨F, rfl⟩ : ∃ F', F = F' + 1 := ⟨F - 1, by omega⟩
  have h0 := (opensS_bounds k p).1
  refine ⟨hx, ?_⟩
  have e : x :: (b ++ [y]) ++ rest = x :: (b ++ y :: rest) := by simp
  rw [e]
  exact not_bracket hx (by omega) (ih p hp F (F + 1) b (y :: rest) (op + 1) pl hb (by omega) (Or.inr hy) (by omega) (by omega)) hy h2
theorem tail_len {sep : List Pc} : ∀ l : List (List Pc), 2 * l.length ≤ (tailP sep l).length
  | [] => Nat.le_refl _
  | x :: r => by
    have := tail_len (sep := sep) r
    rw [tailP, List.length_append, List.length_append, List.length_cons]
    unfold brkP
    rw [List.length_cons, List.length_append, List.length_singleton]; omega
/-- The parts of a Cat. -/
theorem cat_tail {E k F : Nat} (ih : ReadsOr E k) {op pl : Int} {rest : List (Wd × Nat)} (hrest : hk rest = 0 ∨ hk rest = 3) : ∀ (l : List Tr), (∀ p ∈ l, Rd k p ∧ op + 1 + opensS k p ≤ 40) → ∀ (a : List (Wd × Nat)), a.map Prod.fst = (tailP [] (l.map (piecesT k))).map Prod.snd → a.length ≤ F →
    (hk (a ++ rest) = 2 ∨ hk (a ++ rest) = 0 ∨ hk (a ++ rest) = 3) ∧ Runs (notS E [] F) (fun s => notBegins (hk s.ws) = true) ⟨a ++ rest, op, 0, pl⟩ l ⟨rest, op, 0, pl⟩
  | [], _, a, ha, _ => by
    have : a = [] := by simpa [tailP] using ha
    subst this
    exact ⟨Or.inr hrest, Runs.nil _⟩
  | p :: r, hl, a, ha, hF => by
    rw [List.map_cons, tailP, List.nil_append, List.map_append] at ha
    obtain ⟨b, c, rfl, hb, hc⟩ := List.map_eq_append_iff.1 ha
    rw [List.length_append] at hF
    obtain ⟨h1, h2⟩ := cat_tail (F := F) (pl := pl) ih hrest r (fun q hq => hl q (List.mem_cons_of_mem _ hq)) c hc (by omega)
    have hp := hl p (by simp)
    obtain ⟨h3, h4⟩ := not_part (F := F) ih hp.1 (op := op) (pl := pl) (rest := c ++ rest) hb hp.2 (by omega) (by rcases h1 with h1 | h1 | h1 <;> (rw [h1]; decide))
    rw [List.append_assoc]
    exact ⟨Or.inl h3, Runs.cons (by show notBegins (hk (b ++ (c ++ rest))) = true; rw [h3]; decide) h4 h2⟩
/-- The parts of an Or, an And, behind the first. -/
theorem sign_tail {k : Nat} {sg : Int} {sb : UInt8} {g : PSt → Tr × PSt} {op pl : Int} {F : Nat} {rest : List (Wd × Nat)} (hrest : hk rest = 0 ∨ hk rest = 3)
    (hg : ∀ (p : Tr) (b rest' : List (Wd × Nat)), Rd k p ∧ op + 1 + opensS k p ≤ 40 → b.map Prod.fst = (brkP (piecesT k p)).map Prod.snd → b.length ≤ F → (hk rest' = sg ∨ hk rest' = 0 ∨ hk rest' = 3) → g ⟨b ++ rest', op, 0, pl⟩ = (p, ⟨rest', op, 0, pl⟩)) :
    ∀ (l : List Tr), (∀ p ∈ l, Rd k p ∧ op + 1 + opensS k p ≤ 40) → ∀ (a : List (Wd × Nat)), a.map Prod.fst = (tailP [signP sb sg] (l.map (piecesT k))).map Prod.snd → a.length ≤ F →
    (hk (a ++ rest) = sg ∨ hk (a ++ rest) = 0 ∨ hk (a ++ rest) = 3) ∧ Runs (fun s => g (nextS s)) (fun s => hk s.ws = sg) ⟨a ++ rest, op, 0, pl⟩ l ⟨rest, op, 0, pl⟩
  | [], _, a, ha, _ => by
    have : a = [] := by simpa [tailP] using ha
    subst this
    exact ⟨Or.inr hrest, Runs.nil _⟩
  | p :: r, hl, a, ha, hF => by
    rw [List.map_cons, tailP, List.append_assoc, List.singleton_append, List.map_cons, List.map_append] at ha
    obtain ⟨x, a', rfl, hx, ha'⟩ := List.map_eq_cons_iff.1 ha
    obtain ⟨b, c, rfl, hb, hc⟩ := List.map_eq_append_iff.1 ha'
    rw [List.length_cons, List.length_append] at hF
    obtain ⟨h1, h2⟩ := sign_tail (F := F) (pl := pl) hrest hg r (fun q hq => hl q (List.mem_cons_of_mem _ hq)) c hc (by omega)
    have h4 := hg p b (c ++ rest) (hl p (by simp)) hb (by omega) h1
    have hxk : x.1.kind = sg := by rw [hx]; rfl
    have e : x :: (b ++ c) ++ rest = x :: (b ++ (c ++ rest)) := by simp
    rw [e]
    exact ⟨Or.inl hxk, Runs.cons hxk h4 h2⟩
/-- The claim holds. -/
theorem reads_or (E : Nat) : ∀ k, ReadsOr E k
  | 0 => fun t h => by cases h
  | k + 1 => by
    have ih := reads_or E k
    intro t h F f a rest op pl ha hop hrest hF hf
    cases h with
    | empty =>
      have ha' : a.map Prod.fst = [kindW 2, kindW 3] := ha
      obtain ⟨x, a', rfl, hx, ha'⟩ := List.map_eq_cons_iff.1 ha'
      obtain ⟨y, a2, rfl, hy, ha2⟩ := List.map_eq_cons_iff.1 ha'
      obtain rfl : a2 = [] := by simpa using ha2
      have hop' : op + 1 ≤ 40 := by
        have : opensS (k + 1) (leafT 1 ⟨0, 0, 0, 0⟩ false) = 1 := rfl
        omega
      rw [List.length_cons] at hF hf
      obtain ⟨F, rfl⟩ : ∃ F', F = F' + 1 := ⟨F - 1, by omega⟩
      have hyk : hk (y :: rest) = 3 := by show y.1.kind = 3; rw [hy]; rfl
      refine or_one (by show notBegins x.1.kind = true; rw [hx]; decide) (not_bracket (ws := y :: rest) (y := y) (by rw [hx]; rfl) hop' ?_ hyk (by rcases hrest with q | q <;> (rw [q]; decide))) hrest (by omega)
      unfold orS
      refine between_one (between_one ?_ (by show hk (y :: rest) ≠ 5; omega)) (by show hk (y :: rest) ≠ 4; omega)
      exact cat_runs (Runs.nil _) (by show notBegins (hk (y :: rest)) = false; rw [hyk]; decide) (Nat.zero_le _)
    | bytes _ s hs =>
      have ha' : a.map Prod.fst = [setW s] := ha
      obtain ⟨x, a', rfl, hx, ha'⟩ := List.map_eq_cons_iff.1 ha'
      obtain rfl : a' = [] := by simpa using ha'
      rw [List.length_cons] at hF hf
      obtain ⟨F, rfl⟩ : ∃ F', F = F' + 1 := ⟨F - 1, by omega⟩
      have hx1 : x.1.kind = 1 := by rw [hx]; rfl
      refine or_one (by show notBegins x.1.kind = true; rw [hx1]; decide) (not_atom (by show x.1.kind ≠ 6; omega) ?_ (by show timesK (hk rest) = false; rcases hrest with q | q <;> (rw [q]; decide))) hrest (by omega)
      unfold atomS
      dsimp only
      have hp : peekS E ⟨[x] ++ rest, op, 0, pl⟩ = x := rfl
      rw [hp, if_pos hx1, hx]; rfl
    | mark _ kd h =>
      have ha' : a.map Prod.fst = [(if kd = 10 then signP 94 16 else signP 36 17).2] := by rw [ha, pieces_mark k kd h]; rfl
      obtain ⟨x, a', rfl, hx, ha'⟩ := List.map_eq_cons_iff.1 ha'
      obtain rfl : a' = [] := by simpa using ha'
      rw [List.length_cons] at hF hf
      obtain ⟨F, rfl⟩ : ∃ F', F = F' + 1 := ⟨F - 1, by omega⟩
      have hp : peekS E ⟨[x] ++ rest, op, 0, pl⟩ = x := rfl
      rcases h with rfl | rfl
      · have hx1 : x.1.kind = 16 := by rw [hx]; rfl
        refine or_one (by show notBegins x.1.kind = true; rw [hx1]; decide) (not_atom (by show x.1.kind ≠ 6; omega) ?_ (by show timesK (hk rest) = false; rcases hrest with q | q <;> (rw [q]; decide))) hrest (by omega)
        unfold atomS
        dsimp only
        rw [hp, if_neg (by omega), if_neg (by omega), if_pos hx1]; rfl
      · have hx1 : x.1.kind = 17 := by rw [hx]; rfl
        refine or_one (by show notBegins x.1.kind = true; rw [hx1]; decide) (not_atom (by show x.1.kind ≠ 6; omega) ?_ (by show timesK (hk rest) = false; rcases hrest with q | q <;> (rw [q]; decide))) hrest (by omega)
        unfold atomS
        dsimp only
        rw [hp, if_neg (by omega), if_neg (by omega), if_neg (by omega), if_pos hx1]; rfl
    | not _ p hp =>
      rw [pieces_not, List.map_cons] at ha
      obtain ⟨x, a', rfl, hx, ha'⟩ := List.map_eq_cons_iff.1 ha
      rw [List.length_cons] at hF hf
      obtain ⟨F, rfl⟩ : ∃ F', F = F' + 1 := ⟨F - 1, by omega⟩
      have ho := opens_part (k := k) (t := nodeT 6 [p] 0 0 false) (p := p) (by show p ∈ [p]; simp)
      rw [if_pos (show (nodeT 6 [p] 0 0 false).kind = 6 ∨ (nodeT 6 [p] 0 0 false).kind = 1 from Or.inl rfl)] at ho
      have h0 := (opensS_bounds k p).1
      have hx6 : hk (x :: a' ++ rest) = 6 := by show x.1.kind = 6; rw [hx]; rfl
      have h1 := (not_part (F := F) (rest := rest) ih hp (op := op + 1) (pl := pl) ha' (by omega) (by omega) (by rcases hrest with q | q <;> (rw [q]; decide))).2
      refine or_one (by show notBegins (hk (x :: a' ++ rest)) = true; rw [hx6]; decide) ?_ hrest (by omega)
      rw [notS, peek_hk, if_pos hx6]
      have hn : nextS ⟨x :: a' ++ rest, op, 0, pl⟩ = ⟨a' ++ rest, op, 0, pl⟩ := rfl
      rw [hn, enter_ok (by omega), h1]
      dsimp only
      rw [leave_ok]
    | times _ p lo hi h hp =>
      rw [pieces_times, List.map_append] at ha
      obtain ⟨b, c, rfl, hb, hc⟩ := List.map_eq_append_iff.1 ha
      have hc' : c.map Prod.fst = [(⟨10, emptyC, { data := #[] }, lo, hi⟩ : Wd)] := hc
      obtain ⟨z, c', rfl, hz, hc'⟩ := List.map_eq_cons_iff.1 hc'
      obtain rfl : c' = [] := by simpa using hc'
      obtain ⟨x, b', y, rfl, hx, hy, hb'⟩ := brk_split hb
      rw [List.length_append, List.length_cons, List.length_append, List.length_cons, List.length_cons] at hF hf
      obtain ⟨F, rfl⟩ : ∃ F', F = F' + 1 := ⟨F - 1, by omega⟩
      have ho := opens_part (k := k) (t := nodeT 7 [p] lo hi false) (p := p) (by show p ∈ [p]; simp)
      rw [if_neg (by show ¬ ((7 : Int) = 6 ∨ (7 : Int) = 1); omega)] at ho
      have h0 := (opensS_bounds k p).1
      have e : x :: (b' ++ [y]) ++ [z] ++ rest = x :: (b' ++ y :: (z :: rest)) := by simp
      rw [e]
      refine or_one (by show notBegins x.1.kind = true; rw [hx]; decide) ?_ hrest (by omega)
      rw [notS, peek_hk, if_neg (by show x.1.kind ≠ 6; omega)]
      unfold postS
      rw [atom_bracket hx (by omega) (ih p hp F (F + 1) b' (y :: (z :: rest)) (op + 1) pl hb' (by omega) (Or.inr hy) (by omega) (by omega)) hy]
      dsimp only
      have hw : timesW (peekS E ⟨z :: rest, op, 0, pl⟩).1 = (lo, hi, true) := by
        show timesW z.1 = _
        rw [hz]; rfl
      rw [postsS, hw]
      dsimp only
      rw [if_pos rfl]
      exact posts_none (by show timesK (hk rest) = false; rcases hrest with q | q <;> (rw [q]; decide))
    | look _ kd p neg h hp =>
      rw [pieces_look k kd p neg h, List.map_cons, List.map_append, List.map_singleton] at ha
      obtain ⟨x, r, rfl, hx, hr⟩ := List.map_eq_cons_iff.1 ha
      obtain ⟨b, c, rfl, hb, hc⟩ := List.map_eq_append_iff.1 hr
      obtain ⟨y, rfl⟩ : ∃ y, c = [y] := List.length_eq_one_iff.1 (by have := congrArg List.length hc; simpa using this)
      have hy : y.1.kind = 3 := by
        rw [List.map_singleton, List.cons.injEq] at hc
        rw [hc.1]; rfl
      rw [List.length_cons, List.length_append, List.length_singleton] at hF hf
      obtain ⟨F, rfl⟩ : ∃ F', F = F' + 1 := ⟨F - 1, by omega⟩
      have ho := opens_part (k := k) (t := nodeT kd [p] 0 0 neg) (p := p) (by show p ∈ [p]; simp)
      rw [if_neg (by show ¬ (kd = 6 ∨ kd = 1); omega)] at ho
      have h0 := (opensS_bounds k p).1
      have e : x :: (b ++ [y]) ++ rest = x :: (b ++ y :: rest) := by simp
      have hxk : x.1.kind = lookK kd neg := by rw [hx]; rfl
      have hp' : peekS E ⟨x :: (b ++ y :: rest), op, 0, pl⟩ = x := rfl
      have hin := ih p hp F (F + 1) b (y :: rest) (op + 1) pl hb (by omega) (Or.inr hy) (by omega) (by omega)
      have hbr := bracket_ok (q := x.2) (by omega) hin hy
      have hn : nextS ⟨x :: (b ++ y :: rest), op, 0, pl⟩ = ⟨b ++ y :: rest, op, 0, pl⟩ := rfl
      rw [e]
      rcases h with rfl | rfl <;> cases neg
      · have hk12 : x.1.kind = 12 := hxk
        refine or_one (by show notBegins x.1.kind = true; rw [hk12]; decide) (not_atom (by show x.1.kind ≠ 6; omega) ?_ (by show timesK (hk rest) = false; rcases hrest with q | q <;> (rw [q]; decide))) hrest (by omega)
        unfold atomS
        dsimp only
        rw [hp', hn, if_neg (by omega), if_neg (by omega), if_neg (by omega), if_neg (by omega), if_neg (by omega), if_pos (by omega), hbr, decide_eq_false (by omega)]
      · have hk13 : x.1.kind = 13 := hxk
        refine or_one (by show notBegins x.1.kind = true; rw [hk13]; decide) (not_atom (by show x.1.kind ≠ 6; omega) ?_ (by show timesK (hk rest) = false; rcases hrest with q | q <;> (rw [q]; decide))) hrest (by omega)
        unfold atomS
        dsimp only
        rw [hp', hn, if_neg (by omega), if_neg (by omega), if_neg (by omega), if_neg (by omega), if_neg (by omega), if_pos (by omega), hbr, decide_eq_true (by omega)]
      · have hk14 : x.1.kind = 14 := hxk
        refine or_one (by show notBegins x.1.kind = true; rw [hk14]; decide) (not_atom (by show x.1.kind ≠ 6; omega) ?_ (by show timesK (hk rest) = false; rcases hrest with q | q <;> (rw [q]; decide))) hrest (by omega)
        unfold atomS
        dsimp only
        rw [hp', hn, if_neg (by omega), if_neg (by omega), if_neg (by omega), if_neg (by omega), if_neg (by omega), if_neg (by omega), if_pos (by omega), hbr, decide_eq_false (by omega)]
      · have hk15 : x.1.kind = 15 := hxk
        refine or_one (by show notBegins x.1.kind = true; rw [hk15]; decide) (not_atom (by show x.1.kind ≠ 6; omega) ?_ (by show timesK (hk rest) = false; rcases hrest with q | q <;> (rw [q]; decide))) hrest (by omega)
        unfold atomS
        dsimp only
        rw [hp', hn, if_neg (by omega), if_neg (by omega), if_neg (by omega), if_neg (by omega), if_neg (by omega), if_neg (by omega), if_pos (by omega), hbr, decide_eq_true (by omega)]
    | row _ kd l h hl hp =>
      rw [pieces_row k kd l h] at ha
      have hop' : ∀ p ∈ l, Rd k p ∧ op + 1 + opensS k p ≤ 40 := fun p hpl => ⟨hp p hpl, by
        have ho := opens_part (k := k) (t := nodeT kd l 0 0 false) (p := p) hpl
        rw [if_neg (by show ¬ (kd = 6 ∨ kd = 1); omega)] at ho
        omega⟩
      obtain ⟨p, r, rfl⟩ : ∃ p r, l = p :: r := by cases l with | nil => exact absurd hl (by decide) | cons p r => exact ⟨p, r, rfl⟩
      rw [List.map_cons, rowP, List.map_append] at ha
      obtain ⟨b, c, rfl, hb, hc⟩ := List.map_eq_append_iff.1 ha
      rw [List.length_append] at hF hf
      rw [List.length_cons] at hl
      have hlen : 2 * r.length ≤ c.length := by
        have h1 := congrArg List.length hc
        rw [List.length_map, List.length_map] at h1
        have h2 := tail_len (sep := sepP kd) (r.map (piecesT k))
        rw [List.length_map] at h2
        omega
      have hb1 : 1 ≤ b.length := by
        obtain ⟨x, b', y, rfl, _⟩ := brk_split hb
        rw [List.length_cons]; omega
      have hstop : ∀ q, q = 0 ∨ q = 3 → notBegins q = false ∧ timesK q = false ∧ q ≠ 4 ∧ q ≠ 5 := by
        rintro q (rfl | rfl) <;> exact ⟨by decide, by decide, by decide, by decide⟩
      rcases h with rfl | rfl | rfl
      · have ha2 : (b ++ c).map Prod.fst = (tailP [] ((p :: r).map (piecesT k))).map Prod.snd := by
          rw [List.map_cons, tailP, List.nil_append, List.map_append, List.map_append, hb, hc]; rfl
        obtain ⟨_, h2⟩ := cat_tail (F := F) ih hrest (p :: r) hop' (b ++ c) ha2 (by rw [List.length_append]; omega) (pl := pl)
        have hcat := cat_runs (E := E) (f := f) h2 (hstop _ hrest).1 (by rw [List.length_cons]; omega)
        rw [if_neg (by rw [List.length_cons]; omega), join_many (by rw [List.length_cons]; omega)] at hcat
        unfold orS
        exact between_one (between_one hcat (hstop _ hrest).2.2.2) (hstop _ hrest).2.2.1
      · have hg : ∀ (p : Tr) (b rest' : List (Wd × Nat)), Rd k p ∧ op + 1 + opensS k p ≤ 40 → b.map Prod.fst = (brkP (piecesT k p)).map Prod.snd → b.length ≤ F → (hk rest' = 4 ∨ hk rest' = 0 ∨ hk rest' = 3) → betweenS E 5 5 (catS E (notS E [] F) f) f ⟨b ++ rest', op, 0, pl⟩ = (p, ⟨rest', op, 0, pl⟩) := by
          intro p b rest' hp hb hbF hr
          obtain ⟨h3, h4⟩ := not_part (pl := pl) (rest := rest') ih hp.1 hb hp.2 hbF (by rcases hr with q | q | q <;> (rw [q]; decide))
          exact between_one (cat_one (by show notBegins (hk (b ++ rest')) = true; rw [h3]; decide) h4 (by show notBegins (hk rest') = false; rcases hr with q | q | q <;> (rw [q]; decide)) (by omega)) (by show hk rest' ≠ 5; omega)
        obtain ⟨h5, h6⟩ := sign_tail (sg := 4) (sb := 124) (F := F) hrest hg r (fun q hq => hop' q (List.mem_cons_of_mem _ hq)) c hc (by omega)
        rw [List.append_assoc]
        unfold orS
        exact between_many (hg p b (c ++ rest) (hop' p (by simp)) hb (by omega) h5) h6 (hstop _ hrest).2.2.1 (by omega) (by omega)
      · have hg : ∀ (p : Tr) (b rest' : List (Wd × Nat)), Rd k p ∧ op + 1 + opensS k p ≤ 40 → b.map Prod.fst = (brkP (piecesT k p)).map Prod.snd → b.length ≤ F → (hk rest' = 5 ∨ hk rest' = 0 ∨ hk rest' = 3) → catS E (notS E [] F) f ⟨b ++ rest', op, 0, pl⟩ = (p, ⟨rest', op, 0, pl⟩) := by
          intro p b rest' hp hb hbF hr
          obtain ⟨h3, h4⟩ := not_part (pl := pl) (rest := rest') ih hp.1 hb hp.2 hbF (by rcases hr with q | q | q <;> (rw [q]; decide))
          exact cat_one (by show notBegins (hk (b ++ rest')) = true; rw [h3]; decide) h4 (by show notBegins (hk rest') = false; rcases hr with q | q | q <;> (rw [q]; decide)) (by omega)
        obtain ⟨h5, h6⟩ := sign_tail (sg := 5) (sb := 38) (F := F) hrest hg r (fun q hq => hop' q (List.mem_cons_of_mem _ hq)) c hc (by omega)
        rw [List.append_assoc]
        unfold orS
        exact between_one (between_many (hg p b (c ++ rest) (hop' p (by simp)) hb (by omega) h5) h6 (hstop _ hrest).2.2.2 (by omega) (by omega)) (hstop _ hrest).2.2.1
/-- A text that is written is read as what was written. -/
theorem read_text {k : Nat} {t : Tr} (h : Rd k t) (hs : (textS k t).size ≤ 10000) (ho : opensS k t ≤ 40) : pS (textS k t) [] = (t, ⟨[], 0, 0, 0⟩) := by
  rw [pS_of (words_text h hs)]
  unfold wholeS
  have e := reads_or (textS k t).size k t h ((places 0 (piecesT k t)).length + 1) ((places 0 (piecesT k t)).length + 1) (places 0 (piecesT k t)) [] 0 0 (places_fst _ _) (by omega) (Or.inl rfl) (by omega) (by omega)
  rw [List.append_nil] at e
  dsimp only
  rw [e]
  rfl

end Go.Proofs.Ytibmcdgnponpmaa

/- Patterns made plain. No program is walked here. -/
namespace Go.Proofs.Ytibmcdgnponpmaa
open Go.RowKit
set_option linter.unusedSimpArgs false
set_option linter.unusedVariables false

def leafP (kd : Int) : Tr := .node kd ⟨0, 0, 0, 0⟩ none 0 0 [] 0 0 false
/-- What a plain And of none is. -/
def allP : Tr := .node 6 ⟨0, 0, 0, 0⟩ none 1 0 [leafP 2] 0 0 false
/-- The pattern made plain. -/
def plainS : Nat → Tr → Tr
  | 0, _ => Tr.blank
  | k + 1, t =>
    if (t.kind = 3 ∨ t.kind = 4 ∨ t.kind = 5) ∧ t.parts.length = 1 then (t.parts.map (plainS k)).headD Tr.blank
    else if t.kind = 0 ∨ (t.kind = 4 ∧ t.parts.length = 0) then leafP 2
    else if t.kind = 3 ∧ t.parts.length = 0 then leafP 1
    else if t.kind = 5 ∧ t.parts.length = 0 then allP
    else .node t.kind t.set none t.parts.length 0 (t.parts.map (plainS k)) t.lo t.hi t.neg
section
variable {k : Nat} {t : Tr}
theorem plain_one (h : t.kind = 3 ∨ t.kind = 4 ∨ t.kind = 5) (hl : t.parts.length = 1) : plainS (k + 1) t = plainS k (t.parts[0]'(by omega)) := by
  rw [plainS, if_pos ⟨h, hl⟩]
  obtain ⟨a, e⟩ : ∃ a, t.parts = [a] := List.length_eq_one_iff.1 hl
  simp only [e, List.map_cons, List.map_nil, List.headD_cons, List.getElem_cons_zero]
theorem plain_none (h : t.kind = 0) : plainS (k + 1) t = leafP 2 := by rw [plainS, if_neg (by omega), if_pos (Or.inl h)]
theorem plain_or (h : t.kind = 4) (hl : t.parts.length = 0) : plainS (k + 1) t = leafP 2 := by rw [plainS, if_neg (by omega), if_pos (Or.inr ⟨h, hl⟩)]
theorem plain_cat (h : t.kind = 3) (hl : t.parts.length = 0) : plainS (k + 1) t = leafP 1 := by rw [plainS, if_neg (by omega), if_neg (by omega), if_pos ⟨h, hl⟩]
theorem plain_and (h : t.kind = 5) (hl : t.parts.length = 0) : plainS (k + 1) t = allP := by rw [plainS, if_neg (by omega), if_neg (by omega), if_neg (by omega), if_pos ⟨h, hl⟩]
theorem plain_node (h0 : ¬ t.kind = 0) (h : t.kind = 3 ∨ t.kind = 4 ∨ t.kind = 5 → 2 ≤ t.parts.length) : plainS (k + 1) t = .node t.kind t.set none t.parts.length 0 (t.parts.map (plainS k)) t.lo t.hi t.neg := by
  rw [plainS, if_neg (by omega), if_neg (by omega), if_neg (by omega), if_neg (by omega)]
end
theorem plainS_strip : ∀ (k : Nat) (t : Tr), plainS k (t.strip k) = plainS k t
  | 0, _ => rfl
  | k + 1, t => by
    have e : (t.parts.map (Tr.strip k)).map (plainS k) = t.parts.map (plainS k) := by
      rw [List.map_map]; exact List.map_congr_left fun p _ => plainS_strip k p
    show (if (t.kind = 3 ∨ t.kind = 4 ∨ t.kind = 5) ∧ (t.parts.map (Tr.strip k)).length = 1 then ((t.parts.map (Tr.strip k)).map (plainS k)).headD Tr.blank
      else if t.kind = 0 ∨ (t.kind = 4 ∧ (t.parts.map (Tr.strip k)).length = 0) then leafP 2
      else if t.kind = 3 ∧ (t.parts.map (Tr.strip k)).length = 0 then leafP 1
      else if t.kind = 5 ∧ (t.parts.map (Tr.strip k)).length = 0 then allP
      else .node t.kind t.set none (t.parts.map (Tr.strip k)).length 0 ((t.parts.map (Tr.strip k)).map (plainS k)) t.lo t.hi t.neg) = _
    rw [e, List.length_map]; rfl
theorem leafP_strip (k : Nat) (kd : Int) : (leafP kd).strip (k + 1) = leafP kd := rfl
theorem allP_strip (k : Nat) : allP.strip (k + 2) = allP := rfl

end Go.Proofs.Ytibmcdgnponpmaa

/- What a plain formed pattern is, wherever it lies: it is written and read as it is. No program is walked here. -/
namespace Go.Proofs.Ytibmcdgnponpmaa
open Go.RowKit
set_option linter.unusedSimpArgs false
set_option linter.unusedVariables false

theorem textS_strip : ∀ (k : Nat) (t : Tr), textS k (t.strip k) = textS k t
  | 0, _ => rfl
  | k + 1, t => by
    have e : (t.parts.map (Tr.strip k)).map (textS k) = t.parts.map (textS k) := by
      rw [List.map_map]; exact List.map_congr_left fun p _ => textS_strip k p
    show (if t.kind = 1 then _ else if t.kind = 2 then _ else if t.kind = 10 then _ else if t.kind = 11 then _ else if t.kind = 8 ∨ t.kind = 9 then lookT t.kind t.neg ++ ((t.parts.map (Tr.strip k)).map (textS k)).headD noT ++ _ else preT t.kind ++ rowT (sepT t.kind) ((t.parts.map (Tr.strip k)).map (textS k)) ++ (if t.kind = 7 then boundsT t.lo t.hi else noT)) = _
    rw [e]; rfl
theorem opensS_strip : ∀ (k : Nat) (t : Tr), opensS k (t.strip k) = opensS k t
  | 0, _ => rfl
  | k + 1, t => by
    have e : (t.parts.map (Tr.strip k)).map (fun p => opensS k p + 1) = t.parts.map (fun p => opensS k p + 1) := by
      rw [List.map_map]; exact List.map_congr_left fun p _ => by show opensS k (p.strip k) + 1 = _; rw [opensS_strip k p]
    show maxl ((t.parts.map (Tr.strip k)).map (fun p => opensS k p + 1)) + _ = _
    rw [e]; rfl
theorem wrtS_strip : ∀ (k : Nat) (t : Tr), wrtS k (t.strip k) → wrtS k t
  | 0, _, _ => trivial
  | k + 1, t, h => by
    obtain ⟨h1, h2, h3, h4⟩ := h
    have hl : (t.strip (k + 1)).parts.length = t.parts.length := by show (t.parts.map (Tr.strip k)).length = _; rw [List.length_map]
    refine ⟨h1, fun q => ?_, h3, fun p hp => wrtS_strip k p (h4 _ (List.mem_map.2 ⟨p, hp, rfl⟩))⟩
    have := h2 q
    rwa [hl] at this
theorem plainN_strip : ∀ (k : Nat) (t : Tr), plainN k t → plainN k (t.strip k)
  | 0, _, _ => trivial
  | k + 1, t, h => by
    obtain ⟨h1, h2, h3⟩ := h
    refine ⟨h1, fun q => ?_, fun p hp => ?_⟩
    · show 2 ≤ (t.parts.map (Tr.strip k)).length
      rw [List.length_map]; exact h2 q
    · have hp' : p ∈ t.parts.map (Tr.strip k) := hp
      obtain ⟨p', hpp, rfl⟩ := List.mem_map.1 hp'
      exact plainN_strip k p' (h3 p' hpp)
theorem plainN_back : ∀ (k : Nat) (t : Tr), plainN k (t.strip k) → plainN k t
  | 0, _, _ => trivial
  | k + 1, t, h => by
    obtain ⟨h1, h2, h3⟩ := h
    refine ⟨h1, fun q => ?_, fun p hp => plainN_back k p (h3 _ (List.mem_map.2 ⟨p, hp, rfl⟩))⟩
    have : 2 ≤ (t.parts.map (Tr.strip k)).length := h2 q
    rwa [List.length_map] at this
theorem plain_self : ∀ (k : Nat) (t : Tr), plainN k t → plainS k t = t.strip k
  | 0, _, _ => rfl
  | k + 1, t, h => by
    obtain ⟨h1, h2, h3⟩ := h
    rw [plain_node h1 h2, List.map_congr_left fun p hp => plain_self k p (h3 p hp)]
    rfl
theorem rd_succ {k : Nat} {t : Tr} (h : Rd k t) : Rd (k + 1) t := by
  induction h with
  | empty k => exact Rd.empty _
  | bytes k s hs => exact Rd.bytes _ s hs
  | mark k kd h => exact Rd.mark _ kd h
  | row k kd l h hl hp ih => exact Rd.row _ kd l h hl ih
  | not k p hp ih => exact Rd.not _ p ih
  | times k p lo hi h hp ih => exact Rd.times _ p lo hi h ih
  | look k kd p neg h hp ih => exact Rd.look _ kd p neg h ih
theorem rd_wrt {k : Nat} {t : Tr} (h : Rd k t) : wrtS k t := by
  induction h with
  | empty k => exact ⟨⟨by decide, by decide⟩, fun q => absurd q (by decide), fun q => absurd q (by decide), fun p hp => absurd hp List.not_mem_nil⟩
  | bytes k s hs => exact ⟨⟨by show (1 : Int) ≤ 2; decide, by show (2 : Int) ≤ 11; decide⟩, fun q => absurd q (by show ¬ ((2 : Int) = 6 ∨ (2 : Int) = 7 ∨ (2 : Int) = 8 ∨ (2 : Int) = 9); decide), fun q => absurd q (by show ¬ (2 : Int) = 7; decide), fun p hp => absurd hp List.not_mem_nil⟩
  | mark k kd h => exact ⟨⟨by show (1 : Int) ≤ kd; omega, by show kd ≤ 11; omega⟩, fun q => absurd q (by show ¬ (kd = 6 ∨ kd = 7 ∨ kd = 8 ∨ kd = 9); omega), fun q => absurd q (by show ¬ kd = 7; omega), fun p hp => absurd hp List.not_mem_nil⟩
  | row k kd l h hl hp ih => exact ⟨⟨by show (1 : Int) ≤ kd; omega, by show kd ≤ 11; omega⟩, fun q => absurd q (by show ¬ (kd = 6 ∨ kd = 7 ∨ kd = 8 ∨ kd = 9); omega), fun q => absurd q (by show ¬ kd = 7; omega), ih⟩
  | not k p hp ih => exact ⟨⟨by show (1 : Int) ≤ 6; decide, by show (6 : Int) ≤ 11; decide⟩, fun _ => rfl, fun q => absurd q (by show ¬ (6 : Int) = 7; decide), fun q hq => by
      obtain rfl : q = p := by simpa [nodeT, Tr.parts] using hq
      exact ih⟩
  | times k p lo hi h hp ih => exact ⟨⟨by show (1 : Int) ≤ 7; decide, by show (7 : Int) ≤ 11; decide⟩, fun _ => rfl, fun _ => h, fun q hq => by
      obtain rfl : q = p := by simpa [nodeT, Tr.parts] using hq
      exact ih⟩
  | look k kd p neg h hp ih => exact ⟨⟨by show (1 : Int) ≤ kd; omega, by show kd ≤ 11; omega⟩, fun _ => rfl, fun q => absurd q (by show ¬ kd = 7; omega), fun q hq => by
      obtain rfl : q = p := by simpa [nodeT, Tr.parts] using hq
      exact ih⟩
theorem rd_of {w : World} : ∀ (k : Nat) (t : Tr), Tr.In w k t → formedS k t = true → plainN k t → Rd k (t.strip k)
  | 0, _, h, _, _ => h.elim
  | k + 1, t, h, hf, hp => by
    have ho := of_decide_eq_true (formed_own hf)
    obtain ⟨h0, h1, h2, h3, h4, h5⟩ := ho
    obtain ⟨p0, p2, pp⟩ := hp
    have hparts : ∀ q ∈ t.parts.map (Tr.strip k), Rd k q := fun q hq => by
      obtain ⟨p, hpt, rfl⟩ := List.mem_map.1 hq
      obtain ⟨j, hj, rfl⟩ := List.getElem_of_mem hpt
      exact rd_of k _ (h.2.2.2 j hj) (formed_part hf hj) (pp _ hpt)
    have hset : ¬ t.kind = 2 → t.set = ⟨0, 0, 0, 0⟩ := fun q => by
      rcases h2 with h2 | h2
      · exact absurd h2 q
      · exact (St.eqb_iff _ _).1 h2
    have hlohi : ¬ t.kind = 7 → t.lo = 0 ∧ t.hi = 0 := fun q => by
      rcases h4 with h4 | h4
      · exact absurd h4 q
      · exact h4
    have hneg : ¬ t.kind = 8 → ¬ t.kind = 9 → t.neg = false := fun q q2 => by
      rcases h3 with h3 | h3 | h3
      · exact absurd h3 q
      · exact absurd h3 q2
      · exact h3
    have hnone : t.kind = 1 ∨ t.kind = 2 ∨ t.kind = 10 ∨ t.kind = 11 → t.parts = [] := fun q => by
      have : cntF t = 0 := cnt_none (by omega) (by omega)
      exact List.eq_nil_of_length_eq_zero (by omega)
    have hone : t.kind = 6 ∨ t.kind = 7 ∨ t.kind = 8 ∨ t.kind = 9 → ∃ p, t.parts = [p] := fun q => List.length_eq_one_iff.1 (formed_one hf q)
    have e : t.strip (k + 1) = .node t.kind t.set none t.parts.length 0 (t.parts.map (Tr.strip k)) t.lo t.hi t.neg := rfl
    rw [e]
    by_cases k2 : t.kind = 2
    · obtain ⟨l1, l2⟩ := hlohi (by omega)
      rw [hnone (by omega), l1, l2, hneg (by omega) (by omega), k2]
      exact Rd.bytes k t.set h.1.1
    · rw [hset k2]
      by_cases k7 : t.kind = 7
      · obtain ⟨p, hpq⟩ := hone (by omega)
        rw [hpq] at hparts
        rw [hpq, hneg (by omega) (by omega), k7]
        exact Rd.times k (p.strip k) t.lo t.hi (h5 k7) (hparts _ (by simp))
      · obtain ⟨l1, l2⟩ := hlohi k7
        rw [l1, l2]
        by_cases k89 : t.kind = 8 ∨ t.kind = 9
        · obtain ⟨p, hpq⟩ := hone (by omega)
          rw [hpq] at hparts
          rw [hpq]
          exact Rd.look k t.kind (p.strip k) t.neg k89 (hparts _ (by simp))
        · rw [hneg (by omega) (by omega)]
          by_cases k1 : t.kind = 1
          · rw [hnone (by omega), k1]; exact Rd.empty k
          by_cases k6 : t.kind = 6
          · obtain ⟨p, hpq⟩ := hone (by omega)
            rw [hpq] at hparts
            rw [hpq, k6]
            exact Rd.not k (p.strip k) (hparts _ (by simp))
          by_cases k345 : t.kind = 3 ∨ t.kind = 4 ∨ t.kind = 5
          · have := Rd.row k t.kind (t.parts.map (Tr.strip k)) k345 (by rw [List.length_map]; exact p2 k345) hparts
            unfold nodeT at this
            rw [List.length_map] at this
            exact this
          · rw [hnone (by omega)]
            exact Rd.mark k t.kind (by omega)
theorem strip_lv' {k : Nat} {t : Tr} (h : Rd k t) : t.strip k = t := by
  induction h with
  | empty k => rfl
  | bytes k s hs => rfl
  | mark k kd h => rfl
  | row k kd l h hl hp ih =>
    show Tr.node kd ⟨0, 0, 0, 0⟩ none l.length 0 (l.map (Tr.strip k)) 0 0 false = _
    rw [List.map_congr_left (g := id) fun p hp => ih p hp, List.map_id]; rfl
  | not k p hp ih => show Tr.node 6 ⟨0, 0, 0, 0⟩ none 1 0 [p.strip k] 0 0 false = _; rw [ih]; rfl
  | times k p lo hi h hp ih => show Tr.node 7 ⟨0, 0, 0, 0⟩ none 1 0 [p.strip k] lo hi false = _; rw [ih]; rfl
  | look k kd p neg h hp ih => show Tr.node kd ⟨0, 0, 0, 0⟩ none 1 0 [p.strip k] 0 0 neg = _; rw [ih]; rfl

end Go.Proofs.Ytibmcdgnponpmaa
