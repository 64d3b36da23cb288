/- Joined: NormEasy, Lists, Tab, Bits, Least, Count. -/
import Derived.Test.YthifbaacmohmnaaGreatMak
import Derived.Test.YthifbaacmohmnaaGreatMav
import Derived.Test.YthifbaacmohmnaaGreatMau
import Derived.Test.YthifbaacmohmnaaGreatMaa
import Derived.Lib.TrailingZeros
import Derived.Test.YthifbaacmohmnaaGreatProg
import Derived.LoopN
/- The easy ones of norm: put, None, Empty, Look, Not. -/
namespace Go.Proofs.YthifbaacmohmnaaGreat
open Go.RowKit
set_option linter.unusedSimpArgs false
set_option linter.unusedVariables false

section
variable {AA : World → Value → List Nd → (Nat → Prop) → Prop}
theorem Grows.mono {w : World} {a : Value} {ns : List Nd} {F : Nat → Prop} {R R' : List Nd → Int → Prop} {e : Ending} {w' : World} (g : Grows AA w a ns F R e w') (h : ∀ more r, R more r → R' more r) : Grows AA w a ns F R' e w' := by
  obtain ⟨r, more, F', g0, g1, g2, g3, g4, g5, g6⟩ := g
  exact ⟨r, more, F', g0, g1, g2, g3, g4, g5, h more r g6⟩
/-- From a later world on. -/
theorem Grows.from {w w1 w' : World} {a : Value} {ns : List Nd} {F : Nat → Prop} {R : List Nd → Int → Prop} {e : Ending} (g : Grows AA w1 a ns F R e w') (hb : Below w.heap.size w w1) : Grows AA w a ns F R e w' := by
  obtain ⟨r, more, F', g0, g1, g2, g3, g4, g5, g6⟩ := g
  refine ⟨r, more, F', g0, g1, fun b q => ?_, (OffF.of hb).off g3 (fun b q => Or.inl q), g4, g5, g6⟩
  rcases g2 b q with q | q
  · exact Or.inl q
  · exact Or.inr (Nat.le_trans hb.size q)
theorem fit_small (k a b : Int) (neg : Bool) (hk : I64 k) (ha : I64 a) (hb : I64 b) : NdFit (Nd.mk k noSt a b neg) := ⟨hk, ⟨by unfold U64; exact Nat.zero_lt_succ _, by unfold U64; exact Nat.zero_lt_succ _, by unfold U64; exact Nat.zero_lt_succ _, by unfold U64; exact Nat.zero_lt_succ _⟩, ha, hb⟩
def PutR (ns : List Nd) (x : Nd) (more : List Nd) (r : Int) : Prop := ndAt (ns ++ more) r.toNat = x ∧ more.length ≤ 1 ∧ (isIn ns r → more = [])

/-- The number of what is put, or -1. -/
def putR (ns : List Nd) (x : Nd) : Int := if x.right ns.length then putId ns x else -1
set_option maxRecDepth 100000 in
set_option maxHeartbeats 4000000 in
theorem nPutRaw (S : ArenaMid AA) {w : World} {a : Value} {ns : List Nd} {F : Nat → Prop} (x : Nd) (h : AA w a ns F) (hx : NdFit x) (hroom : ns.length < 20000) :
    Calls Tryz.prog 57 #[a, .agg x.cs.toArray] w fun e w' => ∃ F', e = .returned (.int .i64 (putR ns x)) ∧ AA w' a (putS ns x) F' ∧ (∀ b, F' b → F b ∨ w.heap.size ≤ b) ∧ OffF F w w' := by
  have HB : Hid (Below w.heap.size w (w.alloc (.cells x.cs.toArray 61))) := Lib.hid ((Below.refl _ _).alloc (Nat.le_refl _) _)
  obtain ⟨c0, c1, c2, c3, c4, c5, c6, c7⟩ := Nd.cells (At.new w 61 x.cs.toArray)
  have HP : Hid (Calls Tryz.prog 23 #[a, .agg #[.int .i64 x.kind, .int .u64 x.set.w0, .int .u64 x.set.w1, .int .u64 x.set.w2, .int .u64 x.set.w3, .int .i64 x.a, .int .i64 x.b, .bool x.neg]] (w.alloc (.cells x.cs.toArray 61)) fun e w' => ∃ F', e = .returned (.tuple #[.int .i64 (putId ns x), .int .i64 (putE ns x)]) ∧ AA w' a (putS ns x) F' ∧ (∀ b, F' b → F b ∨ (w.alloc (.cells x.cs.toArray 61)).heap.size ≤ b) ∧ OffF F (w.alloc (.cells x.cs.toArray 61)) w') := Lib.hid (S.put x (S.next h HB.out) hx hroom)
  have HG : Hid (∀ w1 F', AA w1 a (putS ns x) F' → (∀ b, F' b → F b ∨ (w.alloc (.cells x.cs.toArray 61)).heap.size ≤ b) → OffF F (w.alloc (.cells x.cs.toArray 61)) w1 → ∃ F', AA w1 a (putS ns x) F' ∧ (∀ b, F' b → F b ∨ w.heap.size ≤ b) ∧ OffF F w w1) := Lib.hid (fun w1 F' h1 h2 h3 => ⟨F', h1, fun b q => by
    rcases h2 b q with q | q
    · exact Or.inl q
    · exact Or.inr (Nat.le_trans HB.out.size q), (OffF.of HB.out).off h3 (fun b q => Or.inl q)⟩)
  clear h hx
  cases hr : x.right ns.length
  · have HE : Hid (putE ns x = 1) := Lib.hid (by unfold putE; rw [if_neg (by rw [hr]; simp)])
    have HR : Hid (putR ns x = -1) := Lib.hid (by unfold putR; rw [if_neg (by rw [hr]; simp)])
    clear hr
    go_enter Tryz.func57, Tryz.ntmps57
    go_wp2_with fail
    refine HP.out.mono ?_
    rintro e w1 ⟨F', rfl, hA1, hF1, ho1⟩
    rw [HE.out]
    have HH := Lib.hid (HG.out w1 F' hA1 hF1 ho1)
    clear hA1 hF1 ho1
    go_wp2_with fail
    go_ret
    obtain ⟨F2, q1, q2, q3⟩ := HH.out
    exact ⟨F2, by rw [HR.out]; rfl, q1, q2, q3⟩
  · have HE : Hid (putE ns x = 0) := Lib.hid (by unfold putE; rw [if_pos hr])
    have HR : Hid (putR ns x = putId ns x) := Lib.hid (by unfold putR; rw [if_pos hr])
    clear hr
    go_enter Tryz.func57, Tryz.ntmps57
    go_wp2_with fail
    refine HP.out.mono ?_
    rintro e w1 ⟨F', rfl, hA1, hF1, ho1⟩
    rw [HE.out]
    have HH := Lib.hid (HG.out w1 F' hA1 hF1 ho1)
    clear hA1 hF1 ho1
    go_wp2_with fail
    go_ret
    obtain ⟨F2, q1, q2, q3⟩ := HH.out
    exact ⟨F2, by rw [HR.out]; rfl, q1, q2, q3⟩
set_option maxRecDepth 100000 in
set_option maxHeartbeats 4000000 in
theorem nPutNo (S : ArenaMid AA) {w : World} {a : Value} {ns : List Nd} {F : Nat → Prop} (x : Nd) (h : AA w a ns F) (hx : NdFit x) (hr : x.right ns.length = false) :
    Calls Tryz.prog 57 #[a, .agg x.cs.toArray] w fun e w' => e = .returned (.int .i64 (-1)) ∧ Below w.heap.size w w' := by
  have HB : Hid (Below w.heap.size w (w.alloc (.cells x.cs.toArray 61))) := Lib.hid ((Below.refl _ _).alloc (Nat.le_refl _) _)
  obtain ⟨c0, c1, c2, c3, c4, c5, c6, c7⟩ := Nd.cells (At.new w 61 x.cs.toArray)
  have HP : Hid (Calls Tryz.prog 23 #[a, .agg #[.int .i64 x.kind, .int .u64 x.set.w0, .int .u64 x.set.w1, .int .u64 x.set.w2, .int .u64 x.set.w3, .int .i64 x.a, .int .i64 x.b, .bool x.neg]] (w.alloc (.cells x.cs.toArray 61)) fun e w' => e = .returned (.tuple #[.int .i64 0, .int .i64 1]) ∧ Below (w.alloc (.cells x.cs.toArray 61)).heap.size (w.alloc (.cells x.cs.toArray 61)) w') := Lib.hid (S.putNo x (S.next h HB.out) hx hr)
  clear h hx hr
  go_enter Tryz.func57, Tryz.ntmps57
  go_wp2_with fail
  refine HP.out.mono ?_
  rintro e w1 ⟨rfl, hb⟩
  have HB1 := Lib.hid (HB.out.trans (hb.mono HB.out.size))
  clear hb
  go_wp2_with fail
  go_ret
  exact ⟨rfl, HB1.out⟩
theorem nPut (S : ArenaMid AA) {w : World} {a : Value} {ns : List Nd} {F : Nat → Prop} (x : Nd) (h : AA w a ns F) (hc : Canon ns) (hx : NdFit x) (hr : x.right ns.length = true) (hl : Fits ns x) (hroom : ns.length < 20000) :
    Calls Tryz.prog 57 #[a, .agg x.cs.toArray] w (Grows AA w a ns F (PutR ns x)) := by
  refine (nPutRaw S x h hx hroom).mono ?_
  rintro e w1 ⟨F', rfl, hA1, hF1, ho1⟩
  obtain ⟨k1, k2, k3, ⟨more, km, kl⟩, k5⟩ := canon_put hc hr hx hl
  rw [km] at hA1 k1 k2 k3
  refine ⟨_, more, F', by unfold putR; rw [if_pos hr], hA1, hF1, ho1, k1, k2, k3, kl, fun q => ?_⟩
  have := k5 q
  rw [km] at this
  exact List.append_right_eq_self.1 this
theorem fits_bare {ns : List Nd} {k : Int} {neg : Bool} {a b : Int} {s : St} (h2 : k ≠ 2) (h3 : k ≠ 3) (h4 : k ≠ 4) (h5 : k ≠ 5) (h6 : k ≠ 6) (h7 : k ≠ 7) : Fits ns ⟨k, s, a, b, neg⟩ :=
  ⟨fun q => absurd q h3, fun k' hk' q => by dsimp only at q; omega, fun q => absurd q h6, fun q => absurd q h7, fun q => absurd q h2⟩

set_option maxRecDepth 100000 in
theorem nEmpty (S : ArenaMid AA) {w : World} {a : Value} {ns : List Nd} {F : Nat → Prop} (h : AA w a ns F) (hc : Canon ns) (hroom : ns.length + 4 ≤ 20000) : Calls Tryz.prog 22 #[a] w (Grows AA w a ns F fun more r => kd (ns ++ more) r = 1 ∧ more.length ≤ 1 ∧ (isIn ns r → more = [])) := by
  have HP := Lib.hid (nPut S ⟨1, noSt, 0, 0, false⟩ h hc (fit_small _ _ _ _ (by unfold I64; omega) (by unfold I64; omega) (by unfold I64; omega)) (by unfold Nd.right; rw [if_pos (Or.inr rfl)]; exact Nd.eqb_self _) (fits_bare (by decide) (by decide) (by decide) (by decide) (by decide) (by decide)) (by omega))
  clear h hc
  go_enter Tryz.func22, Tryz.ntmps22
  go_wp2_with fail
  refine HP.out.mono ?_
  rintro e w1 g
  obtain ⟨r, _, _, rfl, _⟩ := id g
  have HG := Lib.hid (g.mono (R' := fun more r => kd (ns ++ more) r = 1 ∧ more.length ≤ 1 ∧ (isIn ns r → more = [])) (fun more r q => ⟨by unfold kd; rw [q.1], q.2⟩))
  clear g
  go_wp2_with fail
  go_ret
  exact HG.out

theorem one_right' {ns : List Nd} {k x : Int} (hk : k = 6 ∨ k = 7) (hx : isIn ns x) : (Nd.mk k noSt x 0 false).right ns.length = true := by
  unfold isIn at hx
  unfold Nd.right aIn
  rw [if_neg (by dsimp only; omega), if_neg (by dsimp only; omega), if_neg (by dsimp only; omega), if_pos (by dsimp only; omega), Nd.eqb_self]
  dsimp only
  rw [decide_eq_true hx.1, decide_eq_true hx.2]; rfl

end

end Go.Proofs.YthifbaacmohmnaaGreat

/- Plain facts on the list of a set's bytes: word by word, bit by bit; and on how many they are. No program is named here. -/
namespace Go.Proofs.YthifbaacmohmnaaGreat
open Go.RowKit

/-- The bits of a word, rising. -/
def ws (w : Nat) : List Nat := (List.range 64).filter (fun i => w.testBit i)
def St.listTo (s : St) (i : Nat) : List Nat := (List.range (64 * i)).filter (fun x => s.has x)
def St.list (s : St) : List Nat := (List.range 256).filter (fun x => s.has x)
theorem St.listTo_zero (s : St) : s.listTo 0 = [] := by simp [St.listTo]
theorem St.listTo_four (s : St) : s.listTo 4 = s.list := rfl
theorem St.listTo_succ (s : St) (i : Nat) : s.listTo (i + 1) = s.listTo i ++ (ws (s.word i)).map (64 * i + ·) := by
  unfold St.listTo ws
  rw [show 64 * (i + 1) = 64 * i + 64 from by omega, List.range_add, List.filter_append, List.filter_map]
  congr 2
  apply List.filter_congr
  intro x hx
  have hx' : x < 64 := by simpa using hx
  unfold St.has
  simp only [Function.comp_apply]
  rw [show (64 * i + x) / 64 = i from by omega, show (64 * i + x) % 64 = x from by omega]

theorem ws_length (w : Nat) : (ws w).length ≤ 64 := by
  have := List.length_filter_le (fun i => w.testBit i) (List.range 64)
  simpa [ws] using this
/- How many bits: the sum by halves, byte by byte. -/
def rep (v : Nat) : Nat → Nat
  | 0 => 0
  | n + 1 => v + 256 * rep v n
theorem land_bytes (u v y m : Nat) (hu : u < 256) (hv : v < 256) : (u + 256 * y) &&& (v + 256 * m) = (u &&& v) + 256 * (y &&& m) := by
  have hl : u &&& v < 2 ^ 8 := Nat.and_lt_two_pow _ hv
  apply Nat.eq_of_testBit_eq
  intro i
  rw [Nat.testBit_and, Nat.add_comm u, Nat.add_comm v, Nat.add_comm (u &&& v), show (256 : Nat) = 2 ^ 8 from rfl, Nat.testBit_two_pow_mul_add _ hu, Nat.testBit_two_pow_mul_add _ hv, Nat.testBit_two_pow_mul_add _ hl]
  split <;> rw [Nat.testBit_and]
def s1 (n x : Nat) : Nat := ((x / 2) &&& rep 85 n) + (x &&& rep 85 n)
def s2 (n x : Nat) : Nat := ((x / 4) &&& rep 51 n) + (x &&& rep 51 n)
def s3 (n x : Nat) : Nat := ((x / 16) + x) &&& rep 15 n
def f1 (c : Nat) : Nat := (c / 2 &&& 85) + (c &&& 85)
def f2 (c : Nat) : Nat := (c / 4 &&& 51) + (c &&& 51)
def f3 (c : Nat) : Nat := (c / 16 + c) &&& 15
theorem low1 : ∀ c, c < 256 → ∀ e, e < 2 → (c / 2 + 128 * e) &&& 85 = c / 2 &&& 85 := by decide +kernel
theorem low2 : ∀ c, c < 256 → ∀ e, e < 4 → (c / 4 + 64 * e) &&& 51 = c / 4 &&& 51 := by decide +kernel
theorem f1_le : ∀ c, c < 256 → f1 c < 256 := by decide +kernel
theorem f2_le : ∀ c, c < 256 → f2 (f1 c) ≤ 68 ∧ f2 (f1 c) % 16 ≤ 4 := by decide +kernel
theorem f3_is : ∀ c, c < 256 → f3 (f2 (f1 c)) = ((List.range 8).filter (fun i => c.testBit i)).length := by decide +kernel
theorem s1_succ (n c x : Nat) (hc : c < 256) : s1 (n + 1) (c + 256 * x) = f1 c + 256 * s1 n x := by
  unfold s1
  have e : (c + 256 * x) / 2 = (c / 2 + 128 * (x % 2)) + 256 * (x / 2) := by omega
  show ((c + 256 * x) / 2 &&& (85 + 256 * rep 85 n)) + ((c + 256 * x) &&& (85 + 256 * rep 85 n)) = _
  rw [e, land_bytes _ _ _ _ (by omega) (by omega), land_bytes _ _ _ _ hc (by omega), low1 c hc _ (by omega)]
  unfold f1
  omega
theorem s2_succ (n c x : Nat) (hc : c < 256) : s2 (n + 1) (c + 256 * x) = f2 c + 256 * s2 n x := by
  unfold s2
  have e : (c + 256 * x) / 4 = (c / 4 + 64 * (x % 4)) + 256 * (x / 4) := by omega
  show ((c + 256 * x) / 4 &&& (51 + 256 * rep 51 n)) + ((c + 256 * x) &&& (51 + 256 * rep 51 n)) = _
  rw [e, land_bytes _ _ _ _ (by omega) (by omega), land_bytes _ _ _ _ hc (by omega), low2 c hc _ (by omega)]
  unfold f2
  omega
theorem s3_succ (n c x : Nat) (hc : c ≤ 68) (hx : x % 16 ≤ 4) : s3 (n + 1) (c + 256 * x) = f3 c + 256 * s3 n x := by
  unfold s3
  have e : (c + 256 * x) / 16 + (c + 256 * x) = (c / 16 + c + 16 * (x % 16)) + 256 * (x / 16 + x) := by omega
  show ((c + 256 * x) / 16 + (c + 256 * x)) &&& (15 + 256 * rep 15 n) = _
  rw [e, land_bytes _ _ _ _ (by omega) (by omega)]
  unfold f3
  congr 1
  rw [show (15 : Nat) = 2 ^ 4 - 1 from rfl, Nat.and_two_pow_sub_one_eq_mod, Nat.and_two_pow_sub_one_eq_mod]
  omega
def onesIn (n x : Nat) : Nat := ((List.range n).filter (fun i => x.testBit i)).length
theorem ones_split (n c x : Nat) (hc : c < 256) : onesIn (8 + n) (c + 256 * x) = onesIn 8 c + onesIn n x := by
  unfold onesIn
  rw [List.range_add, List.filter_append, List.length_append, List.filter_map, List.length_map]
  congr 2
  · apply List.filter_congr
    intro i hi
    have hi' : i < 8 := by simpa using hi
    rw [Nat.add_comm c, show (256 : Nat) = 2 ^ 8 from rfl, Nat.testBit_two_pow_mul_add _ hc, if_pos hi']
  · apply List.filter_congr
    intro i _
    simp only [Function.comp_apply]
    rw [Nat.add_comm c, show (256 : Nat) = 2 ^ 8 from rfl, Nat.testBit_two_pow_mul_add _ hc, if_neg (by omega), show 8 + i - 8 = i from by omega]
/-- The digits of the third sum are how many bits each byte has. -/
def bsum : Nat → Nat → Nat
  | 0, _ => 0
  | n + 1, x => onesIn 8 (x % 256) + 256 * bsum n (x / 256)
theorem s_all : ∀ (n x : Nat), s3 n (s2 n (s1 n x)) = bsum n x ∧ s2 n (s1 n x) % 16 ≤ 4
  | 0, x => by simp [s3, s2, rep, bsum]
  | n + 1, x => by
    obtain ⟨h1, h2⟩ := s_all n (x / 256)
    have hc : x % 256 < 256 := Nat.mod_lt _ (by omega)
    have e : x = x % 256 + 256 * (x / 256) := by omega
    have e2 : s2 (n + 1) (s1 (n + 1) x) = f2 (f1 (x % 256)) + 256 * s2 n (s1 n (x / 256)) := by
      rw [← s2_succ n _ _ (f1_le _ hc), ← s1_succ n _ _ hc, ← e]
    have hf := f2_le _ hc
    rw [e2, s3_succ n _ _ hf.1 h2, h1, f3_is _ hc]
    exact ⟨rfl, by omega⟩
theorem onesIn8_le (c : Nat) : onesIn 8 c ≤ 8 := by
  have := List.length_filter_le (fun i => c.testBit i) (List.range 8)
  simpa [onesIn] using this
def s4 (y : Nat) : Nat := y + y / 256
def s5 (y : Nat) : Nat := y + y / 65536
def s6 (y : Nat) : Nat := y + y / 4294967296
theorem fold_eight (a b c d e f g h : Nat) (ha : a ≤ 8) (hb : b ≤ 8) (hc : c ≤ 8) (hd : d ≤ 8) (he : e ≤ 8) (hf : f ≤ 8) (hg : g ≤ 8) (hh : h ≤ 8) :
    s6 (s5 (s4 (a + 256 * (b + 256 * (c + 256 * (d + 256 * (e + 256 * (f + 256 * (g + 256 * (h + 256 * 0)))))))))) % 128 = a + b + c + d + e + f + g + h := by
  have e4 : s4 (a + 256 * (b + 256 * (c + 256 * (d + 256 * (e + 256 * (f + 256 * (g + 256 * (h + 256 * 0)))))))) =
      (a + b) + 256 * ((b + c) + 256 * ((c + d) + 256 * ((d + e) + 256 * ((e + f) + 256 * ((f + g) + 256 * ((g + h) + 256 * h)))))) := by
    unfold s4; omega
  rw [e4]
  have e5 : s5 ((a + b) + 256 * ((b + c) + 256 * ((c + d) + 256 * ((d + e) + 256 * ((e + f) + 256 * ((f + g) + 256 * ((g + h) + 256 * h))))))) =
      (a + b + c + d) + 256 * ((b + c + d + e) + 256 * ((c + d + e + f) + 256 * ((d + e + f + g) + 256 * ((e + f + g + h) + 256 * ((f + g + h) + 256 * ((g + h) + 256 * h)))))) := by
    unfold s5; omega
  rw [e5]
  clear e4 e5
  have e6 : ((a + b + c + d) + 256 * ((b + c + d + e) + 256 * ((c + d + e + f) + 256 * ((d + e + f + g) + 256 * ((e + f + g + h) + 256 * ((f + g + h) + 256 * ((g + h) + 256 * h))))))) / 4294967296 =
      (e + f + g + h) + 256 * ((f + g + h) + 256 * ((g + h) + 256 * h)) := by omega
  unfold s6
  rw [e6]
  clear e6
  omega
theorem pop_is (w : Nat) : s6 (s5 (s4 (s3 8 (s2 8 (s1 8 w))))) % 128 = (ws w).length := by
  rw [(s_all 8 w).1]
  have hb : ∀ c, onesIn 8 c ≤ 8 := onesIn8_le
  show s6 (s5 (s4 (onesIn 8 _ + 256 * (onesIn 8 _ + 256 * (onesIn 8 _ + 256 * (onesIn 8 _ + 256 * (onesIn 8 _ + 256 * (onesIn 8 _ + 256 * (onesIn 8 _ + 256 * (onesIn 8 _ + 256 * 0)))))))))) % 128 = onesIn 64 w
  rw [fold_eight _ _ _ _ _ _ _ _ (hb _) (hb _) (hb _) (hb _) (hb _) (hb _) (hb _) (hb _)]
  have hs : ∀ (n x : Nat), onesIn (8 + n) x = onesIn 8 (x % 256) + onesIn n (x / 256) := fun n x => by
    rw [← ones_split n _ _ (Nat.mod_lt _ (by omega))]
    congr 1
    omega
  have h64 : onesIn 64 w = onesIn (8 + (8 + (8 + (8 + (8 + (8 + (8 + (8 + 0)))))))) w := rfl
  rw [h64]
  simp only [hs]
  have h0 : ∀ x, onesIn 0 x = 0 := fun x => by simp [onesIn]
  rw [h0]
  omega

end Go.Proofs.YthifbaacmohmnaaGreat

/- What math/bits.TrailingZeros64 answers, of any word. -/
namespace Go.Proofs.YthifbaacmohmnaaGreat
open Go.RowKit

end Go.Proofs.YthifbaacmohmnaaGreat

/- What math/bits.OnesCount64 answers, of any word. -/
namespace Go.Proofs.YthifbaacmohmnaaGreat
open Go.RowKit

def mA : Nat := 6148914691236517205
def mB : Nat := 3689348814741910323
def mC : Nat := 1085102592571150095
theorem rep_a : rep 85 8 = mA := by decide +kernel
theorem rep_b : rep 51 8 = mB := by decide +kernel
theorem rep_c : rep 15 8 = mC := by decide +kernel
def pa (w : Nat) : Nat := (w / 2) &&& mA
def pb (w : Nat) : Nat := w &&& mA
def pc (w : Nat) : Nat := (w / 4) &&& mB
def pd (w : Nat) : Nat := w &&& mB
def pe (w : Nat) : Nat := w / 16 + w
def y1 (w : Nat) : Nat := s1 8 w
def y2 (w : Nat) : Nat := s2 8 (y1 w)
def y3 (w : Nat) : Nat := s3 8 (y2 w)
def y4 (w : Nat) : Nat := s4 (y3 w)
def y5 (w : Nat) : Nat := s5 (y4 w)
def y6 (w : Nat) : Nat := s6 (y5 w)
theorem y1_is (w : Nat) : y1 w = pa w + pb w := by unfold y1 s1 pa pb; rw [rep_a]
theorem y2_is (w : Nat) : y2 w = pc (y1 w) + pd (y1 w) := by unfold y2 s2 pc pd; rw [rep_b]
theorem y3_is (w : Nat) : y3 w = pe (y2 w) &&& mC := by unfold y3 s3 pe; rw [rep_c]
theorem y2_le (w : Nat) : y2 w ≤ 7378697629483820646 := by
  have h1 : pc (y1 w) ≤ mB := Nat.and_le_right
  have h2 : pd (y1 w) ≤ mB := Nat.and_le_right
  rw [y2_is]
  unfold mB at h1 h2
  omega
theorem y3_le (w : Nat) : y3 w ≤ 1085102592571150095 := by rw [y3_is]; exact Nat.and_le_right
theorem y4_le (w : Nat) : y4 w ≤ 2170205185142300190 := by have := y3_le w; unfold y4 s4; omega
theorem y5_le (w : Nat) : y5 w ≤ 4340410370284600380 := by have := y4_le w; unfold y5 s5; omega
theorem y6_le (w : Nat) : y6 w ≤ 8680820740569200760 := by have := y5_le w; unfold y6 s6; omega
theorem q_a (w : Nat) (h : U64 w) : bits .and .u64 ((w : Int) / 2) 6148914691236517205 = ((pa w : Nat) : Int) := by
  rw [show ((w : Int) / 2) = ((w / 2 : Nat) : Int) from by omega, show (6148914691236517205 : Int) = ((mA : Nat) : Int) from rfl]
  exact bits_and _ _ (Nat.lt_of_le_of_lt (Nat.div_le_self _ _) h) (by unfold U64 mA; omega)
theorem q_b (w : Nat) (h : U64 w) : bits .and .u64 (w : Int) 6148914691236517205 = ((pb w : Nat) : Int) := by
  rw [show (6148914691236517205 : Int) = ((mA : Nat) : Int) from rfl]
  exact bits_and _ _ h (by unfold U64 mA; omega)
theorem q_1 (w : Nat) : IntKind.u64.wrap (((pa w : Nat) : Int) + ((pb w : Nat) : Int)) = ((y1 w : Nat) : Int) := by
  have h1 : pa w ≤ mA := Nat.and_le_right
  have h2 : pb w ≤ mA := Nat.and_le_right
  unfold mA at h1 h2
  rw [y1_is, IntKind.wrap_u64]
  omega
theorem y1_u64 (w : Nat) : U64 (y1 w) := by
  have h1 : pa w ≤ mA := Nat.and_le_right
  have h2 : pb w ≤ mA := Nat.and_le_right
  unfold mA at h1 h2
  rw [y1_is]
  unfold U64
  omega
theorem q_c (w : Nat) (h : U64 w) : bits .and .u64 ((w : Int) / 4) 3689348814741910323 = ((pc w : Nat) : Int) := by
  rw [show ((w : Int) / 4) = ((w / 4 : Nat) : Int) from by omega, show (3689348814741910323 : Int) = ((mB : Nat) : Int) from rfl]
  exact bits_and _ _ (Nat.lt_of_le_of_lt (Nat.div_le_self _ _) h) (by unfold U64 mB; omega)
theorem q_d (w : Nat) (h : U64 w) : bits .and .u64 (w : Int) 3689348814741910323 = ((pd w : Nat) : Int) := by
  rw [show (3689348814741910323 : Int) = ((mB : Nat) : Int) from rfl]
  exact bits_and _ _ h (by unfold U64 mB; omega)
theorem q_2 (w : Nat) : IntKind.u64.wrap (((pc (y1 w) : Nat) : Int) + ((pd (y1 w) : Nat) : Int)) = ((y2 w : Nat) : Int) := by
  have h := y2_le w
  rw [y2_is] at h ⊢
  rw [IntKind.wrap_u64]
  omega
theorem q_e (w : Nat) : IntKind.u64.wrap (((y2 w : Nat) : Int) / 16 + ((y2 w : Nat) : Int)) = ((pe (y2 w) : Nat) : Int) := by
  have h := y2_le w
  unfold pe
  rw [IntKind.wrap_u64]
  omega
theorem q_3 (w : Nat) : bits .and .u64 ((pe (y2 w) : Nat) : Int) 1085102592571150095 = ((y3 w : Nat) : Int) := by
  have h := y2_le w
  rw [y3_is, show (1085102592571150095 : Int) = ((mC : Nat) : Int) from rfl]
  exact bits_and _ _ (by unfold U64 pe; omega) (by unfold U64 mC; omega)
theorem q_4 (w : Nat) : IntKind.u64.wrap (((y3 w : Nat) : Int) + ((y3 w : Nat) : Int) / 256) = ((y4 w : Nat) : Int) := by
  have h := y3_le w
  unfold y4 s4
  rw [IntKind.wrap_u64]
  omega
theorem q_5 (w : Nat) : IntKind.u64.wrap (((y4 w : Nat) : Int) + ((y4 w : Nat) : Int) / 65536) = ((y5 w : Nat) : Int) := by
  have h := y4_le w
  unfold y5 s5
  rw [IntKind.wrap_u64]
  omega
theorem q_6 (w : Nat) : IntKind.u64.wrap (((y5 w : Nat) : Int) + ((y5 w : Nat) : Int) / 4294967296) = ((y6 w : Nat) : Int) := by
  have h := y5_le w
  unfold y6 s6
  rw [IntKind.wrap_u64]
  omega
theorem q_7 (w : Nat) : IntKind.i64.wrap ((y6 w : Nat) : Int) = ((y6 w : Nat) : Int) := by
  have h := y6_le w
  rw [IntKind.wrap_i64]
  omega
theorem ofInt_i64' (a : Nat) (ha : a < 9223372036854775808) : (BitVec.ofInt 64 (a : Int)).toNat = a := by
  rw [BitVec.ofInt_natCast, BitVec.toNat_ofNat]; exact Nat.mod_eq_of_lt (by omega)
theorem q_8 (w : Nat) : bits .and .i64 ((y6 w : Nat) : Int) 127 = (((ws w).length : Nat) : Int) := by
  have h := y6_le w
  have hx : y6 w &&& 127 < 128 := Nat.lt_of_le_of_lt Nat.and_le_right (by omega)
  rw [← pop_is w]
  show IntKind.i64.wrap ((BitVec.ofInt 64 ((y6 w : Nat) : Int) &&& BitVec.ofInt 64 ((127 : Nat) : Int)).toNat : Int) = ((y6 w % 128 : Nat) : Int)
  rw [BitVec.toNat_and, ofInt_i64' _ (by omega), ofInt_i64' 127 (by omega), IntKind.wrap_i64, show (127 : Nat) = 2 ^ 7 - 1 from rfl, Nat.and_two_pow_sub_one_eq_mod]
  omega

set_option maxHeartbeats 2000000 in
theorem onesCount (w : Nat) (hw : U64 w) (W : World) :
    Calls Tryz.prog 161 #[.int .u64 w] W fun e W' => e = .returned (.int .i64 ((ws w).length : Nat)) ∧ W = W' := by
  have ea := q_a w hw
  have eb := q_b w hw
  have e1 := q_1 w
  have ec := q_c (y1 w) (y1_u64 w)
  have ed := q_d (y1 w) (y1_u64 w)
  have e2 := q_2 w
  have ee := q_e w
  have e3 := q_3 w
  have e4 := q_4 w
  have e5 := q_5 w
  have e6 := q_6 w
  have e7 := q_7 w
  have e8 := q_8 w
  go_enter Tryz.func161, Tryz.ntmps161
  go_wp2
  go_ret
  exact ⟨rfl, rfl⟩

end Go.Proofs.YthifbaacmohmnaaGreat

/- What set.Least answers. -/
namespace Go.Proofs.YthifbaacmohmnaaGreat
open Go.RowKit

theorem St.list_is (s : St) : s.list = ((((ws s.w0).map (64 * 0 + ·)) ++ (ws s.w1).map (64 * 1 + ·)) ++ (ws s.w2).map (64 * 2 + ·)) ++ (ws s.w3).map (64 * 3 + ·) := by
  rw [← St.listTo_four, St.listTo_succ, St.listTo_succ, St.listTo_succ, St.listTo_succ, St.listTo_zero]
  rfl
theorem St.list_length (s : St) : s.list.length = (ws s.w0).length + (ws s.w1).length + (ws s.w2).length + (ws s.w3).length := by
  rw [St.list_is]; simp; omega
theorem idx0 (a b c d : Value) (w : World) : (Instr.index 46 (.agg #[a, b, c, d]) (.int .i64 0)).run Tryz.prog w = .ok a w := by kernel_rfl
theorem idx1 (a b c d : Value) (w : World) : (Instr.index 46 (.agg #[a, b, c, d]) (.int .i64 1)).run Tryz.prog w = .ok b w := by kernel_rfl
theorem idx2 (a b c d : Value) (w : World) : (Instr.index 46 (.agg #[a, b, c, d]) (.int .i64 2)).run Tryz.prog w = .ok c w := by kernel_rfl
theorem idx3 (a b c d : Value) (w : World) : (Instr.index 46 (.agg #[a, b, c, d]) (.int .i64 3)).run Tryz.prog w = .ok d w := by kernel_rfl

end Go.Proofs.YthifbaacmohmnaaGreat

/- What set.Count answers. -/
namespace Go.Proofs.YthifbaacmohmnaaGreat
open Go.RowKit

set_option maxHeartbeats 2000000 in
theorem setCount (s : St) (hs : s.Ok) (w : World) :
    Calls Tryz.prog 121 #[.agg #[.int .u64 s.w0, .int .u64 s.w1, .int .u64 s.w2, .int .u64 s.w3]] w fun e w' => e = .returned (.int .i64 (s.list.length : Nat)) ∧ Below w.heap.size w w' := by
  have HL := Lib.hid s.list_length
  obtain ⟨n0, h0⟩ : ∃ n : Nat, n = (ws s.w0).length := ⟨_, rfl⟩
  obtain ⟨n1, h1⟩ : ∃ n : Nat, n = (ws s.w1).length := ⟨_, rfl⟩
  obtain ⟨n2, h2⟩ : ∃ n : Nat, n = (ws s.w2).length := ⟨_, rfl⟩
  obtain ⟨n3, h3⟩ : ∃ n : Nat, n = (ws s.w3).length := ⟨_, rfl⟩
  have l0 : n0 ≤ 64 := by rw [h0]; exact ws_length _
  have l1 : n1 ≤ 64 := by rw [h1]; exact ws_length _
  have l2 : n2 ≤ 64 := by rw [h2]; exact ws_length _
  have l3 : n3 ≤ 64 := by rw [h3]; exact ws_length _
  have c0 := Lib.hid (fun W => onesCount s.w0 hs.o0 W)
  have c1 := Lib.hid (fun W => onesCount s.w1 hs.o1 W)
  have c2 := Lib.hid (fun W => onesCount s.w2 hs.o2 W)
  have c3 := Lib.hid (fun W => onesCount s.w3 hs.o3 W)
  rw [← h0, ← h1, ← h2, ← h3] at HL
  rw [← h0] at c0
  rw [← h1] at c1
  rw [← h2] at c2
  rw [← h3] at c3
  clear h0 h1 h2 h3
  have i0 := idx0 (.int .u64 s.w0) (.int .u64 s.w1) (.int .u64 s.w2) (.int .u64 s.w3)
  have i1 := idx1 (.int .u64 s.w0) (.int .u64 s.w1) (.int .u64 s.w2) (.int .u64 s.w3)
  have i2 := idx2 (.int .u64 s.w0) (.int .u64 s.w1) (.int .u64 s.w2) (.int .u64 s.w3)
  have i3 := idx3 (.int .u64 s.w0) (.int .u64 s.w1) (.int .u64 s.w2) (.int .u64 s.w3)
  go_enter Tryz.func121, Tryz.ntmps121
  go_wp2
  refine wp_loop_rounds 5 ?_
  rw [rounds_succ]
  go_wp2_with fail
  refine (c0.out _).mono ?_
  rintro e w1 ⟨rfl, rfl⟩
  go_wp2_with fail
  rw [rounds_succ]
  go_wp2_with fail
  refine (c1.out _).mono ?_
  rintro e w1 ⟨rfl, rfl⟩
  go_wp2_with fail
  rw [rounds_succ]
  go_wp2_with fail
  refine (c2.out _).mono ?_
  rintro e w1 ⟨rfl, rfl⟩
  go_wp2_with fail
  rw [rounds_succ]
  go_wp2_with fail
  refine (c3.out _).mono ?_
  rintro e w1 ⟨rfl, rfl⟩
  go_wp2_with fail
  rw [rounds_succ]
  go_wp2_with fail
  go_ret
  exact ⟨by rw [HL.out]; rfl, (Below.refl _ _).alloc (Nat.le_refl _) _⟩

end Go.Proofs.YthifbaacmohmnaaGreat
