/- norm.Cat: one behind the other, by recursion over the number of the first one. -/
import Derived.Test.YtcghclikkeajfaaNormCatM
import Derived.Test.YtcghclikkeajfaaNormEasy2
import Derived.Test.YtcghclikkeajfaaMi
namespace Go.Proofs.Ytcghclikkeajfaa
open Go.RowKit
set_option linter.unusedSimpArgs false
set_option linter.unusedVariables false

section
variable {AA : World → Value → List Nd → (Nat → Prop) → Prop}
/-- What ahead does, as far as the numbers up to n. -/
def AheadIs (AA : World → Value → List Nd → (Nat → Prop) → Prop) (n : Nat) : Prop := ∀ (x y : Int) {w : World} {a : Value} {ns : List Nd} {F : Nat → Prop} (g : Nat), x.toNat ≤ n → AA w a ns F → Canon ns → isIn ns x → isIn ns y → kd ns y ≠ 0 → kd ns y ≠ 1 → At w g 68 #[a, .map none] → ¬ F g → ns.length + catN ns x + 4 ≤ 20000 →
  Calls Try.prog 35 #[.pointer (some ⟨g, 0, none⟩), .int .i64 x, .int .i64 y] w (Grows AA w a ns F (CatG ns x y))

set_option maxRecDepth 100000 in
set_option maxHeartbeats 16000000 in
theorem nCatAhead (S : ArenaMid AA) (n : Nat) (IH : AheadIs AA n) (x y : Int) (u : Nd) {w : World} {a : Value} {ns : List Nd} {F : Nat → Prop} (g : Nat) (hn : x.toNat ≤ n + 1) (h : AA w a ns F) (hc : Canon ns) (hx : isIn ns x) (hy : isIn ns y) (y0 : kd ns y ≠ 0) (y1 : kd ns y ≠ 1) (hg : At w g 68 #[a, .map none]) (hF : ¬ F g) (hroom : ns.length + catN ns x + 4 ≤ 20000) (k3 : kd ns x = 3) (hu : u = ndAt ns x.toNat) :
    Calls Try.prog 51 #[.pointer (some ⟨g, 0, none⟩), .int .i64 x, .agg u.cs.toArray, .int .i64 y] w (Grows AA w a ns F (CatG ns x y)) := by
  have hmx := S.max h
  have hxI : I64 x := by unfold isIn at hx; unfold I64; omega
  have hyI : I64 y := by unfold isIn at hy; unfold I64; omega
  obtain ⟨⟨ia, la⟩, ib, lb⟩ := in_two hc.fine hx (Or.inl k3)
  have HKa : Hid (ka ns x = u.a) := Lib.hid (by unfold ka; rw [hu])
  have HKb : Hid (kb ns x = u.b) := Lib.hid (by unfold kb; rw [hu])
  have HFl : Hid (∀ b, F b → b < w.heap.size) := Lib.hid (S.low h)
  obtain ⟨⟨ka0, ka1, ka3⟩, kb0, kb1⟩ := hc.cat x hx k3
  have HCn : Hid (catN ns x = 1 + catN ns (kb ns x)) := Lib.hid (by
    obtain ⟨p, l, hpl⟩ := cat_parts hc _ _ (Nat.le_refl _) ib kb0 kb1
    unfold catN
    rw [cat_node hc.fine hx k3, hpl]
    simp
    omega)
  have HCa : Hid (∀ more, catN (ns ++ more) (ka ns x) = 1) := Lib.hid (fun more => by
    unfold catN
    rw [catV_up hc.fine more ia, cat_leaf ka0 ka1 ka3]; rfl)
  have HIa := Lib.hid ia
  have HIb := Lib.hid ib
  have HNa : Hid ((ka ns x).toNat ≤ n ∧ (kb ns x).toNat ≤ n) := Lib.hid (by
    have h1 := ia; have h2 := ib; unfold isIn at h1 h2; omega)
  have HX := Lib.hid hx
  have HY := Lib.hid hy
  have HY0 := Lib.hid y0
  have HY1 := Lib.hid y1
  have HC := Lib.hid hc
  have HF := Lib.hid hF
  have HRoom := Lib.hid hroom
  have HK3 := Lib.hid k3
  have HB0 : Hid (Below w.heap.size w (w.alloc (.cells u.cs.toArray 56))) := Lib.hid ((Below.refl _ _).alloc (Nat.le_refl _) _)
  have HA0 := Lib.hid h
  have hgl := hg.lt
  have hG := hg.alloc (.cells u.cs.toArray 56)
  have hU := At.new w 56 u.cs.toArray
  have c0 : (w.alloc (.cells u.cs.toArray 56)).cell? ⟨g, 0, none⟩ = some a := hG.cell 0
  have c1 : (w.alloc (.cells u.cs.toArray 56)).cell? ⟨g, 1, none⟩ = some (.map none) := hG.cell 1
  have hlk := fun w => look_no w hxI
  have HIH := Lib.hid IH
  clear IH hn h hc hx hy y0 y1 hg hF hroom k3 hu ia la ib lb ka0 ka1 ka3 kb0 kb1
  obtain ⟨gp, rfl⟩ := S.ptr HA0.out
  have hu5 : u.cs[5]? = some (.int .i64 u.a) := rfl
  have hu6 : u.cs[6]? = some (.int .i64 u.b) := rfl
  obtain ⟨W2, hW2⟩ : ∃ W2, W2 = (w.alloc (.cells u.cs.toArray 56)).alloc (.cells #[] 84) := ⟨_, rfl⟩
  have HB2 : Hid (Below w.heap.size w W2) := Lib.hid (by rw [hW2]; exact HB0.out.alloc (by simp) _)
  have HA2 := Lib.hid (S.next HA0.out HB2.out)
  have HG2 : Hid (At W2 g 68 #[.pointer (some ⟨gp, 0, none⟩), .map none]) := Lib.hid (by rw [hW2]; exact hG.alloc _)
  have HU2 : Hid (At W2 w.heap.size 56 u.cs.toArray) := Lib.hid (by rw [hW2]; exact hU.alloc _)
  have HI1 := Lib.hid (HIH.out (kb ns x) y g HNa.out.2 HA2.out HC.out HIb.out HY.out HY0.out HY1.out HG2.out HF.out (by have := HRoom.out; have := HCn.out; omega))
  have HW2 := Lib.hid hW2
  rw [hW2, HKb.out] at HI1
  clear hW2
  go_enter Try.func51, Try.ntmps51
  go_wp2_with fail
  refine HI1.out.mono ?_
  rw [← HW2.out, ← HKb.out]
  rintro e w6 ⟨q, more1, F1, rfl, g1, g2, g3, g4, g5, g6⟩
  have HG6 : Hid (At w6 g 68 #[.pointer (some ⟨gp, 0, none⟩), .map none]) := Lib.hid ((g3.block _ HG2.out.lt (fun z => HF.out z)).trans HG2.out)
  have HU6 : Hid (At w6 w.heap.size 56 u.cs.toArray) := Lib.hid ((g3.block _ HU2.out.lt (fun z => by have := HFl.out _ z; omega)).trans HU2.out)
  have HO6 : Hid (OffF F w w6) := Lib.hid ((OffF.of HB2.out).off g3 (fun b z => Or.inl z))
  have HF1 : Hid (¬ F1 g) := Lib.hid (fun z => by
    rcases g2 _ z with z | z
    · exact HF.out z
    · have := HB2.out.size; omega)
  have HFl1 : Hid (∀ b, F1 b → F b ∨ w.heap.size < b) := Lib.hid (fun b z => by
    rcases g2 b z with z | z
    · exact Or.inl z
    · have h2 := HW2.out; rw [h2] at z; simp at z; exact Or.inr (by omega))
  obtain ⟨q0, q1⟩ := cat_kb HC.out HX.out HY.out HK3.out HIb.out HY0.out HY1.out g6.1
  have HQ0 := Lib.hid q0
  have HQ1 := Lib.hid q1
  have HR1 : Hid ((ns ++ more1).length + 1 + 4 ≤ 20000) := Lib.hid (by have := HRoom.out; have h1 := HCn.out; have h2 := g6.2.1; rw [List.length_append]; omega)
  have HKn := Lib.hid (nKind S q g1 g5)
  have hqn : ¬ q < 0 := by unfold isIn at g5; omega
  have hqd : decide (q < 0) = false := decide_eq_false hqn
  have H1 := Lib.hid g1
  have H2 := Lib.hid g2
  have H4 := Lib.hid g4
  have H5 := Lib.hid g5
  have H6 := Lib.hid g6
  clear g1 g2 g3 g4 g5 g6 q0 q1 c0 c1 hG hU
  have c0 := HG6.out.cell 0
  have c1 := HG6.out.cell 1
  obtain ⟨u0, u1, u2, u3, u4, u5, u6, u7⟩ := Nd.cells HU6.out
  go_wp2_with fail
  refine HKn.out.mono ?_
  rintro e w7 ⟨rfl, hb7⟩
  have HA7 := Lib.hid (S.next H1.out hb7)
  have HG7 : Hid (At w7 g 68 #[.pointer (some ⟨gp, 0, none⟩), .map none]) := Lib.hid ((hb7.block _ HG6.out.lt).trans HG6.out)
  have HU7 : Hid (At w7 w.heap.size 56 u.cs.toArray) := Lib.hid ((hb7.block _ HU6.out.lt).trans HU6.out)
  have HO7 : Hid (OffF F w w7) := Lib.hid (HO6.out.then hb7)
  have HS7 : Hid (w6.heap.size ≤ w7.heap.size) := Lib.hid hb7.size
  have HB7 := Lib.hid hb7
  have hq0b : (kd (ns ++ more1) q == 0) = false := (int_ne HQ0.out).1
  have HI2 := Lib.hid (HIH.out (ka ns x) q g HNa.out.1 HA7.out H4.out (HIa.out.up more1) H5.out HQ0.out HQ1.out HG7.out HF1.out (by have := HR1.out; have := HCa.out more1; omega))
  clear hb7 c0 c1 u0 u1 u2 u3 u4 u5 u6 u7
  have c0 := HG7.out.cell 0
  have c1 := HG7.out.cell 1
  obtain ⟨u0, u1, u2, u3, u4, u5, u6, u7⟩ := Nd.cells HU7.out
  rw [← HKa.out] at u5
  go_wp2_with fail
  refine HI2.out.mono ?_
  rintro e w8 ⟨r, more2, F2, rfl, k1, k2, k3, k4, k5, k6⟩
  have HG : Hid (Grows AA w (.pointer (some ⟨gp, 0, none⟩)) ns F (CatG ns x y) (.returned (.int .i64 r)) w8) := Lib.hid (cat_both S HC.out HX.out HY.out HIa.out HIb.out HK3.out HY0.out HY1.out HB2.out H1.out H2.out HO6.out H4.out H5.out H6.out k1 (fun b z => by
    rcases k2 b z with z | z
    · exact Or.inl z
    · exact Or.inr (Nat.le_trans HS7.out z)) ((OffF.of (show Below w6.heap.size w6 w7 from HB7.out)).off k3 (fun b z => Or.inl z)) k4 k5 k6)
  have hrn : r ≠ y := by
    obtain ⟨r', more, F', e, _, _, _, _, _, hR⟩ := HG.out
    injection e with e
    injection e with _ e
    subst e
    exact (cat_ne HC.out HX.out HY.out HK3.out HY0.out HY1.out hR.1).1
  have hrb := (int_ne hrn).1
  clear k1 k2 k3 k4 k5 k6 hrn
  go_wp2_with fail
  go_ret
  exact HG.out

set_option maxRecDepth 100000 in
set_option maxHeartbeats 16000000 in
theorem nAheadOf (S : ArenaMid AA) (n : Nat) (hIH : Hid (∀ m, m + 1 = n → AheadIs AA m)) : AheadIs AA n := by
    intro x y w a ns F g hn h hc hx hy y0 y1 hg hF hroom
    have hmx := S.max h
    have hxI : I64 x := by unfold isIn at hx; unfold I64; omega
    have hyI : I64 y := by unfold isIn at hy; unfold I64; omega
    have HN := Lib.hid (S.nodeIn x h hxI)
    have HA := Lib.hid h
    have HX := Lib.hid hx
    have HY := Lib.hid hy
    have HY0 := Lib.hid y0
    have HY1 := Lib.hid y1
    have HC := Lib.hid hc
    have HF := Lib.hid hF
    have HRoom := Lib.hid hroom
    have HNn := Lib.hid hn
    have HG := Lib.hid hg
    have hdx : decide (0 ≤ x ∧ x < (ns.length : Int)) = true := decide_eq_true hx
    obtain ⟨gp, rfl⟩ := S.ptr HA.out
    have c0 := HG.out.cell 0
    clear h hc hx hy y0 y1 hF hroom hn hg
    go_enter Try.func35, Try.ntmps35
    go_wp2_with fail
    refine HN.out.mono ?_
    rintro e w1 ⟨u, rfl, hu, hb1⟩
    have hu := hu HX.out
    rw [hdx]
    have HU := Lib.hid hu
    have HKx : Hid (kd ns x = u.kind) := Lib.hid (by unfold kd; rw [← hu])
    have HBb := Lib.hid (hb1.trans ((boxN_next w1 u).mono hb1.size))
    have HXb := Lib.hid (boxN_at w1 u)
    have HAb := Lib.hid (S.next HA.out HBb.out)
    have HGb : Hid (At (boxN w1 u) g 68 #[.pointer (some ⟨gp, 0, none⟩), .map none]) := Lib.hid ((HBb.out.block _ HG.out.lt).trans HG.out)
    have ck := (Nd.cells HXb.out).1
    clear hu hb1 hdx c0
    have c0 := HGb.out.cell 0
    by_cases x0 : u.kind = 0
    · have HE : Hid (kd ns x = 0) := Lib.hid (by rw [HKx.out]; exact x0)
      rw [x0] at ck
      clear x0
      go_wp2_with (first
      | (with_reducible show wpList _ _ _ ({ dst := none, op := .store _ _ _, type := _, pos := _, after := _, guard := _ } :: _) _ _
         refine wpList_store_row rfl 56 _ _ rfl w1.heap.size u.cs.toArray rfl rfl 56 Nd.zero.cs.toArray (At.new _ _ _) (by kernel_rfl) rfl (Nd.one u) ?_
         first | change wpList _ _ _ _ _ (boxN w1 u) | change Exit.then _ _ _ _ (boxN w1 u))
      | fail)
      go_ret
      exact Grows.stay S HA.out HC.out HBb.out HX.out ⟨⟨by rw [List.append_nil]; exact HX.out, by rw [List.append_nil, cat_none HE.out]; first | (cases catV ns y <;> rfl) | (cases catV ns x <;> simp [catJ])⟩, Nat.zero_le _, fun _ => rfl⟩
    have HKx0 : Hid (kd ns x ≠ 0) := Lib.hid (by rw [HKx.out]; exact x0)
    have x0b := (int_ne x0).1
    clear x0
    by_cases x1 : u.kind = 1
    · have HE : Hid (kd ns x = 1) := Lib.hid (by rw [HKx.out]; exact x1)
      rw [x1] at ck x0b
      clear x1 x0b
      go_wp2_with (first
      | (with_reducible show wpList _ _ _ ({ dst := none, op := .store _ _ _, type := _, pos := _, after := _, guard := _ } :: _) _ _
         refine wpList_store_row rfl 56 _ _ rfl w1.heap.size u.cs.toArray rfl rfl 56 Nd.zero.cs.toArray (At.new _ _ _) (by kernel_rfl) rfl (Nd.one u) ?_
         first | change wpList _ _ _ _ _ (boxN w1 u) | change Exit.then _ _ _ _ (boxN w1 u))
      | fail)
      go_ret
      exact Grows.stay S HA.out HC.out HBb.out HY.out ⟨⟨by rw [List.append_nil]; exact HY.out, by rw [List.append_nil, cat_empty HE.out]; first | (cases catV ns y <;> rfl) | (cases catV ns y <;> simp [catJ])⟩, Nat.zero_le _, fun _ => rfl⟩
    have HKx1 : Hid (kd ns x ≠ 1) := Lib.hid (by rw [HKx.out]; exact x1)
    have x1b := (int_ne x1).1
    clear x1
    by_cases x3 : u.kind = 3
    · have HKx3 : Hid (kd ns x = 3) := Lib.hid (by rw [HKx.out]; exact x3)
      have hcl : u.cs.length = 8 := rfl
      have HCA : Hid (Calls Try.prog 51 #[.pointer (some ⟨g, 0, none⟩), .int .i64 x, .agg u.cs.toArray, .int .i64 y] (boxN w1 u) (Grows AA (boxN w1 u) (.pointer (some ⟨gp, 0, none⟩)) ns F (CatG ns x y))) := Lib.hid (by
        obtain ⟨⟨ia, la⟩, _⟩ := in_two HC.out.fine HX.out (Or.inl HKx3.out)
        have h1 := HNn.out
        have h2 := HX.out
        unfold isIn at ia h2
        obtain ⟨m, hm⟩ : ∃ m, n = m + 1 := ⟨n - 1, by omega⟩
        exact nCatAhead S m (hIH.out m hm.symm) x y u g (by omega) HAb.out HC.out HX.out HY.out HY0.out HY1.out HGb.out HF.out HRoom.out HKx3.out HU.out)
      rw [x3] at ck x0b x1b
      clear x3 x0b x1b
      go_wp2_with (first
        | (with_reducible show wpList _ _ _ ({ dst := none, op := .store _ _ _, type := _, pos := _, after := _, guard := _ } :: _) _ _
           refine wpList_store_row rfl 56 _ _ rfl w1.heap.size u.cs.toArray rfl rfl 56 Nd.zero.cs.toArray (At.new _ _ _) (by kernel_rfl) rfl (Nd.one u) ?_
           first | change wpList _ _ _ _ _ (boxN w1 u) | change Exit.then _ _ _ _ (boxN w1 u))
        | (with_reducible show wpList _ _ _ ({ dst := _, op := .load 56 (.tmp 7), type := _, pos := _, after := _, guard := _ } :: _) _ _
           refine wpList_load_row_want (by rfl) 56 _ rfl w1.heap.size rfl 56 u.cs.toArray (0, 0) _ HXb.out Try.underlying56 rfl (by rw [List.size_toArray, Nd.cs_length]; kernel_rfl) ?_)
        | fail)
      refine HCA.out.mono ?_
      rintro e w5 gr
      obtain ⟨r, _, _, rfl, _⟩ := id gr
      have HGr := Lib.hid (gr.from HBb.out)
      clear gr
      go_wp2_with fail
      go_ret
      exact HGr.out
    · have HKx3 : Hid (kd ns x ≠ 3) := Lib.hid (by rw [HKx.out]; exact x3)
      have x3b := (int_ne x3).1
      clear x3
      have HP := Lib.hid (nPut S ⟨3, noSt, x, y, false⟩ HAb.out HC.out (fit_small _ _ _ _ (by unfold I64; omega) hxI hyI) (two_right' (Or.inl rfl) HX.out HY.out) (fits_cat ⟨HKx0.out, HKx1.out, HKx3.out⟩ HY0.out HY1.out) (by have := HRoom.out; omega))
      go_wp2_with (first
      | (with_reducible show wpList _ _ _ ({ dst := none, op := .store _ _ _, type := _, pos := _, after := _, guard := _ } :: _) _ _
         refine wpList_store_row rfl 56 _ _ rfl w1.heap.size u.cs.toArray rfl rfl 56 Nd.zero.cs.toArray (At.new _ _ _) (by kernel_rfl) rfl (Nd.one u) ?_
         first | change wpList _ _ _ _ _ (boxN w1 u) | change Exit.then _ _ _ _ (boxN w1 u))
      | fail)
      refine HP.out.mono ?_
      rintro e w5 gr
      obtain ⟨r, _, _, rfl, _⟩ := id gr
      have HGr : Hid (Grows AA w (.pointer (some ⟨gp, 0, none⟩)) ns F (CatG ns x y) (.returned (.int .i64 r)) w5) := Lib.hid (by
        obtain ⟨r', more, F', g0, g1, g2, g3, g4, g5, g6⟩ := gr.from HBb.out
        obtain ⟨q1, q2⟩ := cat_end HC.out g4 HX.out HY.out HKx0.out HKx1.out HKx3.out HY0.out HY1.out g5 g6.1 g6.2.2
        refine ⟨r', more, F', g0, g1, g2, g3, g4, g5, q1, ?_, q2⟩
        have : catN ns x = 1 := by unfold catN; rw [cat_leaf HKx0.out HKx1.out HKx3.out]; rfl
        have := g6.2.1
        omega)
      clear gr
      go_wp2_with fail
      go_ret
      exact HGr.out
theorem nAhead (S : ArenaMid AA) : ∀ n : Nat, AheadIs AA n
  | 0 => nAheadOf S 0 (Lib.hid (fun m h => absurd h (Nat.succ_ne_zero m)))
  | n + 1 => nAheadOf S (n + 1) (Lib.hid (fun m h => (Nat.succ.inj h).symm ▸ nAhead S n))

set_option maxRecDepth 100000 in
set_option maxHeartbeats 16000000 in
theorem nCat (S : ArenaMid AA) (x y : Int) {w : World} {a : Value} {ns : List Nd} {F : Nat → Prop} (h : AA w a ns F) (hc : Canon ns) (hx : isIn ns x) (hy : isIn ns y) (hroom : ns.length + catN ns x + 4 ≤ 20000) :
    Calls Try.prog 14 #[a, .int .i64 x, .int .i64 y] w (Grows AA w a ns F (CatG ns x y)) := by
  have hmx := S.max h
  have hxI : I64 x := by unfold isIn at hx; unfold I64; omega
  have hyI : I64 y := by unfold isIn at hy; unfold I64; omega
  have HX := Lib.hid hx
  have HY := Lib.hid hy
  have HC := Lib.hid hc
  have HRoom := Lib.hid hroom
  have HB : Hid (Below w.heap.size w (w.alloc (.cells #[.int .i64 x, .int .i64 y] 3))) := Lib.hid ((Below.refl _ _).alloc (Nat.le_refl _) _)
  have HA0 := Lib.hid h
  have HA := Lib.hid (S.next h HB.out)
  have HT : Hid (Calls Try.prog 26 #[a, .slice (some ⟨w.heap.size, 0, none⟩) 2 2] (w.alloc (.cells #[.int .i64 x, .int .i64 y] 3)) fun e w' => e = .returned (.bool true) ∧ w' = w.alloc (.cells #[.int .i64 x, .int .i64 y] 3)) := Lib.hid (nThere S [x, y] HA.out (list_two _ _ _ _) (by simp) (fun z hz => by simp at hz; rcases hz with rfl | rfl; exact hx; exact hy))
  have HKy := Lib.hid (nKind S y HA.out hy)
  obtain ⟨gp, rfl⟩ := S.ptr h
  clear h hc hx hy hroom
  go_enter Try.func14, Try.ntmps14
  go_wp2_with fail
  refine HT.out.mono ?_
  rintro e w1 ⟨rfl, rfl⟩
  go_wp2_with fail
  refine HKy.out.mono ?_
  rintro e w1 ⟨rfl, hb1⟩
  have HB1 := Lib.hid (HB.out.trans (hb1.mono HB.out.size))
  have HA1 := Lib.hid (S.next HA.out hb1)
  clear hb1
  by_cases y1 : kd ns y = 1
  · have hyb : (kd ns y == 1) = true := by rw [y1]; rfl
    have HE := Lib.hid y1
    clear y1
    go_wp2_with fail
    go_ret
    exact Grows.stay S HA0.out HC.out HB1.out HX.out ⟨⟨by rw [List.append_nil]; exact HX.out, by rw [List.append_nil, cat_empty HE.out]; cases catV ns x <;> simp [catJ]⟩, Nat.zero_le _, fun _ => rfl⟩
  have HY1 := Lib.hid y1
  have y1b := (int_ne y1).1
  have HKy2 := Lib.hid (nKind S y HA1.out HY.out)
  clear y1
  go_wp2_with fail
  refine HKy2.out.mono ?_
  rintro e w2 ⟨rfl, hb2⟩
  have HB2 := Lib.hid (HB1.out.trans (hb2.mono HB1.out.size))
  have HA2 := Lib.hid (S.next HA1.out hb2)
  clear hb2
  by_cases y0 : kd ns y = 0
  · have hyb : (kd ns y == 0) = true := by rw [y0]; rfl
    have HE := Lib.hid y0
    clear y0
    go_wp2_with fail
    go_ret
    exact Grows.stay S HA0.out HC.out HB2.out HY.out ⟨⟨by rw [List.append_nil]; exact HY.out, by rw [List.append_nil, cat_none HE.out]; cases catV ns x <;> rfl⟩, Nat.zero_le _, fun _ => rfl⟩
  have HY0 := Lib.hid y0
  have y0b := (int_ne y0).1
  clear y0
  obtain ⟨w3, hw3⟩ : ∃ w3, w3 = w2.alloc (.cells #[.pointer (some ⟨gp, 0, none⟩), .map none] 68) := ⟨_, rfl⟩
  have HB3 : Hid (Below w.heap.size w w3) := Lib.hid (by rw [hw3]; exact HB2.out.alloc HB2.out.size _)
  have HA3 := Lib.hid (S.next HA0.out HB3.out)
  have HG3 : Hid (At w3 w2.heap.size 68 #[.pointer (some ⟨gp, 0, none⟩), .map none]) := Lib.hid (by rw [hw3]; exact At.new _ _ _)
  have HI := Lib.hid (nAhead S x.toNat x y w2.heap.size (Nat.le_refl _) HA3.out HC.out HX.out HY.out HY0.out HY1.out HG3.out (fun z => by have := S.low HA2.out _ z; omega) HRoom.out)
  have HW3 := Lib.hid hw3
  rw [hw3] at HI
  clear hw3
  go_wp2_with fail
  refine HI.out.mono ?_
  rw [← HW3.out]
  rintro e w5 gr
  obtain ⟨r, _, _, rfl, _⟩ := id gr
  have HGr := Lib.hid (gr.from HB3.out)
  clear gr
  go_wp2_with fail
  go_ret
  exact HGr.out
end

end Go.Proofs.Ytcghclikkeajfaa
