/- Joined: LwDel, LwHold, LwAtomsA, LwAtoms, LwAcc. -/
import Derived.Test.YthifbaacmohmnaaGreatMbq
import Derived.Lib.SliceRun
import Derived.Laws.IdiomCopy
import Derived.Test.YthifbaacmohmnaaGreatMam
import Derived.Shelf.SlIterI.Nil
import Derived.Shelf.SortM.Plain
import Derived.Shelf.SortM.SortNone
import Derived.Ground.GgzProg
import Derived.Ground.SlgmProg
/- slices.DeleteFunc of numbers at Accepts' function. -/
namespace Go.Proofs.YthifbaacmohmnaaGreat
open Go.RowKit
set_option linter.unusedSimpArgs false
set_option linter.unusedVariables false

theorem grown_sets (g : Nat) : ∀ (vs : List Value) (o : Nat) (w : World), w.grownBy (w.setCells g o vs) (some g)
  | [], _, w => ⟨rfl, rfl, rfl, Nat.le_refl _, fun _ _ _ => rfl⟩
  | v :: vs, o, w => by
    have h1 := grown_set w g o v
    have h2 := grown_sets g vs (o + 1) (w.setCell ⟨g, o, none⟩ v)
    exact ⟨h2.os.trans h1.os, h2.tape.trans h1.tape, h2.output.trans h1.output, Nat.le_trans h1.size h2.size, fun k hk hn => (h2.block k (Nat.lt_of_lt_of_le hk h1.size) hn).trans (h1.block k hk hn)⟩
/-- What a row of numbers holds. -/
def DR (w : World) (g n : Nat) (f : Nat → Int) : Prop := g < w.heap.size ∧ ∀ j, j < n → w.cell? ⟨g, j, none⟩ = some (.int .i64 (f j)) ∧ w.frozen? ⟨g, j, none⟩ = false
theorem DR.kept {w w' : World} {g n : Nat} {f : Nat → Int} (h : DR w g n f) (hb : w'.heap[g]? = w.heap[g]?) (hs : w.heap.size ≤ w'.heap.size) : DR w' g n f :=
  ⟨Nat.lt_of_lt_of_le h.1 hs, fun j hj => ⟨(World.cell?_of_block (a := ⟨g, j, none⟩) hb).trans (h.2 j hj).1, (World.frozen?_of_block (a := ⟨g, j, none⟩) hb).trans (h.2 j hj).2⟩⟩
theorem DR.set {w : World} {g n : Nat} {f : Nat → Int} (h : DR w g n f) {i : Nat} (hi : i < n) (x : Int) : DR (w.setCell ⟨g, i, none⟩ (.int .i64 x)) g n (fun j => if j = i then x else f j) := by
  refine ⟨by rw [World.size_setCell]; exact h.1, fun j hj => ⟨?_, ?_⟩⟩
  · show _ = some (Value.int .i64 (if j = i then x else f j))
    by_cases e : j = i
    · subst e
      rw [if_pos rfl]
      exact World.cell?_setCell_same w _ _ (h.2 j hj).1
    · rw [if_neg e, World.cell?_setCell_other _ _ _ _ (by intro q; injection q with _ q _; exact e q.symm)]
      exact (h.2 j hj).1
  · rw [World.frozen?_setCell]
    exact (h.2 j hj).2
theorem DR.ints {w : World} {g n cap : Nat} {f : Nat → Int} (h : DR w g n f) (l : List Int) (hl : l.length ≤ n) (hf : ∀ j, j < l.length → f j = inAt l j) (hI : ∀ x ∈ l, IsI x) (hc : n ≤ cap) (hc2 : cap ≤ 9223372036854775807) : IntsAt w (.slice (some ⟨g, 0, none⟩) l.length cap) l :=
  ⟨_, _, rfl, by omega, hc2, hI, fun _ => ⟨g, 0, rfl, h.1, fun j hj => by rw [Nat.zero_add, (h.2 j (by omega)).1, hf j hj]⟩⟩
theorem zeroInt (w : World) : (zeroValue 3).run Tryz.prog w = .ok (.int .i64 0) w := by kernel_rfl
theorem filter_take {l : List Int} {j : Nat} (h : j < l.length) (q : Int → Bool) : (l.take (j + 1)).filter q = (l.take j).filter q ++ (if q l[j] then [l[j]] else []) := by
  rw [List.take_succ_eq_append_getElem h, List.filter_append]
  congr 1
  cases e : q l[j] <;> simp [e]
set_option maxRecDepth 100000 in
set_option maxHeartbeats 8000000 in
theorem lDelete (l : List Int) (p : Int → Bool) (Inv : World → Prop) (bx : Value) (g cap : Nat) (w : World) (h : Inv w) (hr : DR w g l.length (inAt l)) (hI : ∀ x ∈ l, IsI x) (hcap : l.length ≤ cap) (hcap2 : cap ≤ 9223372036854775807)
    (hgr : ∀ W W', Inv W → W.grownBy W' (some g) → W'.heap.size = W.heap.size → Inv W')
    (hcall : ∀ W x, Inv W → x ∈ l → Calls Tryz.prog 38 #[.int .i64 x, bx] W fun e W' => e = .returned (.bool (p x)) ∧ Inv W' ∧ W'.heap[g]? = W.heap[g]? ∧ W.heap.size ≤ W'.heap.size) :
    Calls Tryz.prog 41 #[.slice (some ⟨g, 0, none⟩) l.length cap, .func (.func 38) #[] #[bx]] w fun e w' => e = .returned (.slice (some ⟨g, 0, none⟩) (l.filter (fun x => !p x)).length cap) ∧ Inv w' ∧ IntsAt w' (.slice (some ⟨g, 0, none⟩) (l.filter (fun x => !p x)).length cap) (l.filter (fun x => !p x)) := by
  have HIx := Lib.hid (lIndexA l p (fun W => Inv W ∧ DR W g l.length (inAt l)) bx (some ⟨g, 0, none⟩) l.length cap w ⟨h, hr⟩ (fun W z => z.2.ints l (Nat.le_refl _) (fun _ _ => rfl) hI hcap hcap2)
    (fun W x z hx => (hcall W x z.1 hx).mono (fun e W' q => ⟨q.1, q.2.1, z.2.kept q.2.2.1 q.2.2.2⟩)))
  have HC := Lib.hid hcall
  have HG := Lib.hid hgr
  have HII := Lib.hid hI
  have eg : ∀ args w, (callFunc 38 args).run Tryz.prog w = .ok (.enter 38 args) w := enters_of Tryz.func38 (by kernel_rfl) rfl
  have hl63 : l.length ≤ 9223372036854775807 := by omega
  clear h hr hI hgr hcall
  go_enter Tryz.func41, Tryz.ntmps41
  go_wp2_with fail
  refine HIx.out.mono ?_
  rintro e w1 ⟨r, rfl, hk, hv, hd⟩
  have HV := Lib.hid hv
  have HD := Lib.hid hd
  clear hv hd HIx
  rcases hk with ⟨rfl, h0⟩ | ⟨k, hkl, rfl, h1, h2⟩
  · have HF : Hid (l.filter (fun x => !p x) = l) := Lib.hid (List.filter_eq_self.2 (fun x hx => by rw [h0 x hx]; rfl))
    clear h0
    go_wp2_with fail
    go_ret
    rw [HF.out]
    exact ⟨rfl, HV.out, HD.out.ints l (Nat.le_refl _) (fun _ _ => rfl) HII.out hcap hcap2⟩
  have HT : Hid ((l.take (k + 1)).filter (fun x => !p x) = l.take k) := Lib.hid (by
    rw [filter_take hkl, ← inAt_lt hkl, h1]
    simp only [Bool.not_true, Bool.false_eq_true, if_false, List.append_nil]
    refine List.filter_eq_self.2 (fun x hx => ?_)
    obtain ⟨j, hj, rfl⟩ := List.mem_iff_getElem.1 hx
    rw [List.length_take] at hj
    have := h2 j (by omega)
    rw [inAt_lt (show j < l.length by omega)] at this
    rw [List.getElem_take, this]; rfl)
  have hkn : ¬ (k : Int) = -1 := by omega
  have hkb : ((k : Int) == -1) = false := (int_ne hkn).1
  clear h1 h2
  go_wp2_with fail
  go_loopw [5, 6] (fun u5 u6 wr => ∃ (i j : Nat) (f : Nat → Int), i < j ∧ j ≤ l.length ∧ u5 = .int .i64 i ∧ u6 = .int .i64 j ∧ Hid (Inv wr) ∧ Hid (DR wr g l.length f) ∧ Hid (∀ t, j ≤ t → t < l.length → f t = inAt l t) ∧ Hid ((l.take j).filter (fun x => !p x) = (List.range i).map f)) (fun _ u6 _ => l.length - (intOf u6).toNat)
  case atStart =>
    refine ⟨k, k + 1, inAt l, by omega, by omega, rfl, by go_num, HV, HD, Lib.hid (fun _ _ _ => rfl), Lib.hid ?_⟩
    rw [HT.out]
    apply List.ext_getElem
    · simp; omega
    · intro t h1 h2
      simp at h1 h2
      rw [List.getElem_take]
      simp [inAt_lt (show t < l.length by omega)]
  case round =>
    clear HV HD HT
    obtain ⟨i, j, f, hij, hj, rfl, rfl, HV, HD, HF, HT⟩ := hrel
    by_cases hlt : j < l.length
    · have g1 : (0 : Int) ≤ (j : Int) := by omega
      have g2 : (j : Int) < (l.length : Int) := by omega
      have g3 : (0 : Int) ≤ (i : Int) := by omega
      have g4 : (i : Int) < (l.length : Int) := by omega
      have c1 := (HD.out.2 j hlt).1
      rw [HF.out j (Nat.le_refl _) hlt] at c1
      obtain ⟨x, hx⟩ : ∃ x, inAt l j = x := ⟨_, rfl⟩
      rw [hx] at c1
      have HXe : Hid (l[j] = x) := Lib.hid (by rw [← hx, inAt_lt hlt])
      have HCl := Lib.hid (HC.out wr x HV.out (by rw [← HXe.out]; exact List.getElem_mem hlt))
      obtain ⟨r, hr⟩ : ∃ r, p x = r := ⟨_, rfl⟩
      rw [hr] at HCl
      have HR := Lib.hid hr
      clear hx hr
      go_wp2_with fail
      refine HCl.out.mono ?_
      rintro e w3 ⟨rfl, hv3, hg3, hs3⟩
      have HV3 := Lib.hid hv3
      have HD3 := Lib.hid (HD.out.kept hg3 hs3)
      clear hv3 hg3 hs3 c1
      cases r
      · have c3 := (HD3.out.2 i (by omega)).1
        have f3 := (HD3.out.2 i (by omega)).2
        go_wp2_with fail
        refine ⟨⟨i + 1, j + 1, _, by omega, by omega, by go_num, by go_num, Lib.hid (HG.out _ _ HV3.out (grown_set _ _ _ _) (World.size_setCell _ _ _)), Lib.hid (HD3.out.set (by omega) x), Lib.hid (fun t h1 h2 => ?_), Lib.hid ?_⟩, by simp [intOf]; omega⟩
        · rw [if_neg (by omega)]
          exact HF.out t (by omega) h2
        · rw [filter_take hlt, HXe.out, HR.out, HT.out, List.range_succ, List.map_append]
          simp only [Bool.not_false, if_true, List.map_cons, List.map_nil]
          congr 1
          exact List.map_congr_left (fun t ht => by rw [if_neg (by have := List.mem_range.1 ht; omega)])
      · go_wp2_with fail
        refine ⟨⟨i, j + 1, f, by omega, by omega, rfl, by go_num, HV3, HD3, Lib.hid (fun t h1 h2 => HF.out t (by omega) h2), Lib.hid ?_⟩, by simp [intOf]; omega⟩
        rw [filter_take hlt, HXe.out, HR.out, HT.out]
        simp
    · obtain rfl : j = l.length := by omega
      have g3 : (0 : Int) ≤ (i : Int) := by omega
      have g4 : (i : Int) ≤ (l.length : Int) := by omega
      have g5 : (i : Int) ≤ (cap : Int) := by omega
      have g6 : ¬ cap = i := by omega
      have hcl : ∀ ty, (Builtin.clear_ #[80] ty #[.slice (some ⟨g, i, none⟩) (l.length - i) (cap - i)]).run Tryz.prog wr = .ok (.tuple #[]) (wr.setCells g i (List.replicate (l.length - i) (.int .i64 0))) :=
        fun ty => Lib.run_clear_slice wr _ _ ty _ Tryz.underlying80 zeroInt rfl rfl g i _ _ (by omega) (fun t ht => by rw [(HD.out.2 (i + t) (by omega)).1]; rfl) (fun t ht => (HD.out.2 (i + t) (by omega)).2)
      have HEnd : Hid (l.filter (fun x => !p x) = (List.range i).map f) := Lib.hid (by have := HT.out; rwa [List.take_length] at this)
      have HLe : Hid ((l.filter (fun x => !p x)).length = i) := Lib.hid (by rw [HEnd.out]; simp)
      go_wp2_with fail
      go_ret
      have hgs := grown_sets g (List.replicate (l.length - i) (.int .i64 0)) i wr
      have hsz : ∀ (vs : List Value) (o : Nat) (W : World), (W.setCells g o vs).heap.size = W.heap.size := fun vs => by
        induction vs with
        | nil => intro o W; rfl
        | cons v vs ih => intro o W; exact (ih _ _).trans (World.size_setCell _ _ _)
      refine ⟨by rw [HLe.out]; rfl, HG.out _ _ HV.out hgs (hsz _ _ _), ?_⟩
      refine ⟨_, _, rfl, by rw [HLe.out]; omega, hcap2, fun x hx => HII.out x (List.mem_filter.1 hx).1, fun _ => ⟨g, 0, rfl, by rw [hsz]; exact HD.out.1, fun t ht => ?_⟩⟩
      rw [HLe.out] at ht
      rw [Nat.zero_add, World.cell?_setCells_out g _ _ _ _ (fun _ _ => Or.inl ht), (HD.out.2 t (by omega)).1, inAt_lt (by rw [HLe.out]; exact ht)]
      congr 1
      simp only [HEnd.out]
      simp

end Go.Proofs.YthifbaacmohmnaaGreat

/- formula.Holds of numbers. -/
namespace Go.Proofs.YthifbaacmohmnaaGreat
open Go.RowKit Go.Maps
set_option linter.unusedSimpArgs false
set_option linter.unusedVariables false

theorem run_make_any (n : Nat) (hn : n ≤ 20000) (w : World) : (Instr.makeMap 110 (some (.int .i64 (n : Int)))).run Tryz.prog w = .ok (.map (some w.heap.size)) (w.alloc (.map #[] 0)) := by
  simp [Instr.makeMap, run_underlying Tryz.underlying110]
  try rfl
theorem isI_I64 {x : Int} (h : IsI x) : I64 x := by unfold IsI at h; unfold I64; omega
set_option maxRecDepth 100000 in
set_option maxHeartbeats 4000000 in
theorem lHolds1 {w : World} {b m k : Nat} {s : List Int} {x : Int} (hb : w.cell? ⟨b, 0, none⟩ = some (.map (some m))) (hs : SeenAt w m k s) (hx : I64 x) : Calls Tryz.prog 68 #[.int .i64 x, .pointer (some ⟨b, 0, none⟩)] w fun e w' => e = .returned (.bool (!decide (x ∈ s))) ∧ Below w.heap.size w w' := by
  have hlk := hs.look hx
  obtain ⟨r, hr⟩ : ∃ r, decide (x ∈ s) = r := ⟨_, rfl⟩
  rw [hr] at hlk ⊢
  have HB : Hid (Below w.heap.size w (w.alloc (.cells #[] 111))) := Lib.hid ((Below.refl _ _).alloc (Nat.le_refl _) _)
  clear hs hr
  go_enter Tryz.func68, Tryz.ntmps68
  cases r
  · go_wp2_with fail
    go_ret
    exact ⟨rfl, HB.out⟩
  · go_wp2_with fail
    go_ret
    exact ⟨rfl, HB.out⟩
set_option maxRecDepth 100000 in
set_option maxHeartbeats 4000000 in
theorem lContH (l : List Int) (p : Int → Bool) (Inv : World → Prop) (bx : Value) (A : Option Addr) (n c : Nat) (w : World) (h : Inv w) (hat : ∀ W, Inv W → IntsAt W (.slice A n c) l)
    (hcall : ∀ W x, Inv W → x ∈ l → Calls Tryz.prog 68 #[.int .i64 x, bx] W fun e W' => e = .returned (.bool (p x)) ∧ Inv W') :
    Calls Tryz.prog 70 #[.slice A n c, .func (.func 68) #[] #[bx]] w fun e w' => e = .returned (.bool (l.any p)) ∧ Inv w' := by
  have HI := Lib.hid (lIndexH l p Inv bx A n c w h hat hcall)
  clear h hat hcall
  go_enter Tryz.func70, Tryz.ntmps70
  go_wp2_with fail
  refine HI.out.mono ?_
  rintro e w1 ⟨r, rfl, hr, hv⟩
  have HV := Lib.hid hv
  clear hv
  rcases hr with ⟨rfl, h0⟩ | ⟨k, hk, rfl, h1, _⟩
  · have HE : Hid (l.any p = false) := Lib.hid (by rw [List.any_eq_false]; intro x hx; rw [h0 x hx]; simp)
    clear h0
    go_wp2_with fail
    go_ret
    exact ⟨by rw [HE.out]; rfl, HV.out⟩
  · have HE : Hid (l.any p = true) := Lib.hid (by rw [List.any_eq_true]; exact ⟨_, List.getElem_mem hk, by rw [← inAt_lt hk]; exact h1⟩)
    have h2 : (k : Int) ≥ 0 := by omega
    clear h1
    go_wp2_with fail
    go_ret
    exact ⟨by rw [HE.out]; rfl, HV.out⟩
set_option maxRecDepth 100000 in
set_option maxHeartbeats 4000000 in
theorem lHolds2 (l on s : List Int) (A : Option Addr) (n c b2 b m k : Nat) (w : World) (hl : IntsAt w (.slice A n c) l) (hlI : ∀ x ∈ l, IsI x) (hb2 : w.cell? ⟨b2, 0, none⟩ = some (.func (.func 68) #[] #[.pointer (some ⟨b, 0, none⟩)])) (hb : At w b 110 #[.map (some m)]) (hs : SeenAt w m k s) (hm : ∀ x, x ∈ s ↔ x ∈ on) :
    Calls Tryz.prog 69 #[.slice A n c, .pointer (some ⟨b2, 0, none⟩)] w fun e w' => e = .returned (.bool (l.all (fun x => decide (x ∈ on)))) ∧ Below w.heap.size w w' := by
  have HC := Lib.hid (lContH l (fun x => !decide (x ∈ s)) (fun W => Below w.heap.size w W) (.pointer (some ⟨b, 0, none⟩)) A n c w (Below.refl _ _) (fun W z => hl.next z)
    (fun W x z hx => (lHolds1 (At.cell ((z.block _ hb.lt).trans hb) 0) (hs.kept (z.block _ hs.lt)) (isI_I64 (hlI x hx))).mono (fun e W' q => ⟨q.1, z.trans (q.2.mono z.size)⟩)))
  have HE : Hid ((!l.any (fun x => !decide (x ∈ s))) = l.all (fun x => decide (x ∈ on))) := Lib.hid (by
    rw [List.all_eq_not_any_not]
    congr 2
    funext x
    rw [show decide (x ∈ s) = decide (x ∈ on) from by rw [Bool.eq_iff_iff, decide_eq_true_eq, decide_eq_true_eq]; exact hm x])
  obtain ⟨r, hr⟩ : ∃ r, l.any (fun x => !decide (x ∈ s)) = r := ⟨_, rfl⟩
  rw [hr] at HC HE
  rw [← HE.out]
  clear hl hlI hb hs hm hr
  go_enter Tryz.func69, Tryz.ntmps69
  go_wp2_with fail
  refine HC.out.mono ?_
  rintro e w1 ⟨rfl, hb1⟩
  have HB := Lib.hid hb1
  clear hb1
  cases r
  · go_wp2_with fail
    go_ret
    exact ⟨rfl, HB.out⟩
  · go_wp2_with fail
    go_ret
    exact ⟨rfl, HB.out⟩
set_option maxRecDepth 100000 in
set_option maxHeartbeats 8000000 in
theorem lHolds (f : Fm) (on : List Int) (A B : Option Addr) (n c k d : Nat) (w : World) (h : FmAt w (.slice A n c) f) (hon : IntsAt w (.slice B k d) on) (hk20 : on.length ≤ 20000) :
    Calls Tryz.prog 40 #[.slice A n c, .slice B k d] w fun e w' => e = .returned (.bool (fP (fun x => decide (x ∈ on)) f)) ∧ Below w.heap.size w w' := by
  have HF := Lib.hid h
  have HO := Lib.hid hon
  have hm := h.max
  obtain rfl := h.len
  obtain rfl := hon.len
  obtain ⟨_, _, e0, _, _, hII, _⟩ := hon
  have HII := Lib.hid hII
  clear h e0 hII
  have hmm := run_make_any on.length hk20
  go_enter Tryz.func40, Tryz.ntmps40
  go_wp2_with fail
  go_loopw [14] (fun v wr => ∃ (j : Nat) (s : List Int), j ≤ on.length ∧ v = .int .i64 j ∧ Hid (Below w.heap.size w wr) ∧ Hid (SeenAt wr w.heap.size j s) ∧ Hid (∀ x, x ∈ s ↔ x ∈ on.take j) ∧ Hid (At wr (w.heap.size + 1) 110 #[.map (some w.heap.size)])) (fun v _ => on.length - (intOf v).toNat)
  case atStart =>
    refine ⟨0, [], Nat.zero_le _, rfl, Lib.hid (((Below.refl _ _).alloc (Nat.le_refl _) _).alloc (by simp) _), Lib.hid ((SeenAt.made w).kept (Below.heap_alloc _ _ _ (by simp))), Lib.hid (fun x => by simp), Lib.hid ?_⟩
    have := At.new (w.alloc (.map #[] 0)) 110 #[.map (some w.heap.size)]
    rwa [World.size_alloc] at this
  case round =>
    clear hmm
    obtain ⟨j, s, hj, rfl, HB, HS, HM, HX⟩ := hrel
    by_cases hlt : j < on.length
    · have g1 : (0 : Int) ≤ (j : Int) := by omega
      have g2 : (j : Int) < (on.length : Int) := by omega
      obtain ⟨b, off, rfl, _, q0⟩ := (HO.out.next HB.out).at j hlt
      obtain ⟨x, hx⟩ : ∃ x, inAt on j = x := ⟨_, rfl⟩
      rw [hx] at q0
      have HXe : Hid (on[j] = x) := Lib.hid (by rw [← hx, inAt_lt hlt])
      have cx := HX.out.cell 0
      obtain ⟨w', hr, hs', hg'⟩ := HS.out.store (isI_I64 (HII.out x (by rw [← HXe.out]; exact List.getElem_mem hlt))) (by omega)
      have HS' := Lib.hid hs'
      have HB' : Hid (Below w.heap.size w w') := Lib.hid (HB.out.grown hg' HB.out.size (fun b e => by injection e with e; omega))
      have HX' := Lib.hid ((hg'.block (w.heap.size + 1) HX.out.lt (fun e => by injection e with e; omega)).trans HX.out)
      clear hx hs' hg'
      go_wp2_with fail
      refine ⟨⟨j + 1, x :: s, by omega, by go_num, HB', HS', Lib.hid (fun y => ?_), HX'⟩, by simp [intOf]; omega⟩
      rw [List.take_succ_eq_append_getElem hlt, List.mem_append, List.mem_cons, List.mem_singleton, HM.out y, HXe.out]
      exact Or.comm
    · obtain rfl : j = on.length := by omega
      have HMm : Hid (∀ x, x ∈ s ↔ x ∈ on) := Lib.hid (by have := HM.out; rwa [List.take_length] at this)
      have hb1 := HB.out.alloc HB.out.size (.cells #[.func (.func 68) #[] #[.pointer (some ⟨w.heap.size + 1, 0, none⟩)]] 78)
      have hbw := (Below.refl wr.heap.size wr).alloc (Nat.le_refl _) (.cells #[.func (.func 68) #[] #[.pointer (some ⟨w.heap.size + 1, 0, none⟩)]] 78)
      have hA1 := At.new wr 78 #[.func (.func 68) #[] #[.pointer (some ⟨w.heap.size + 1, 0, none⟩)]]
      go_wp2_with fail
      generalize wr.alloc (.cells #[.func (.func 68) #[] #[.pointer (some ⟨w.heap.size + 1, 0, none⟩)]] 78) = W at hb1 hbw hA1 ⊢
      have hSW : SeenAt W w.heap.size on.length s := HS.out.kept (hbw.block _ HS.out.lt)
      have hXW : At W (w.heap.size + 1) 110 #[.map (some w.heap.size)] := (hbw.block _ HX.out.lt).trans HX.out
      have hC := fContH f (fun p => p.all (fun x => decide (x ∈ on))) (.pointer (some ⟨wr.heap.size, 0, none⟩)) A _ c W (HF.out.next hb1) (fun w' hb l A2 n2 c2 hl hm => by
        have hl0 := hl
        obtain ⟨_, _, _, _, _, hlI, _⟩ := hl0
        refine lHolds2 l on s A2 n2 c2 wr.heap.size (w.heap.size + 1) w.heap.size on.length w' hl hlI ((hA1.below hb hA1.lt).cell 0) ((hb.block _ hXW.lt).trans hXW) (hSW.kept (hb.block _ hSW.lt)) HMm.out)
      have HC := Lib.hid hC
      have HB1 := Lib.hid hb1
      clear hC hb1 hbw hA1 hSW hXW
      refine HC.out.mono ?_
      rintro e w3 ⟨rfl, hb3⟩
      have HB3 := Lib.hid (HB1.out.trans (hb3.mono HB1.out.size))
      clear hb3
      go_wp2_with fail
      go_ret
      exact ⟨rfl, HB3.out⟩

end Go.Proofs.YthifbaacmohmnaaGreat

/- formula.Atoms: the numbers of a formula. -/
namespace Go.Proofs.YthifbaacmohmnaaGreat
open Go.RowKit Go.Maps Go.Sort Go.Shelf Go.Proofs
set_option linter.unusedSimpArgs false
set_option linter.unusedVariables false

/-- Numbers in a map, each once. -/
structure SeenT (w : World) (b : Nat) (s : List Int) : Prop where
  ex : ∃ D : DataW Unit, w.ownsMap Tryz.prog 3 unitR b s.length D ∧ ∀ x, I64 x → has D (.int .i64 x) = decide (x ∈ s)
  nodup : s.Nodup
theorem SeenT.made (w : World) : SeenT (w.alloc (.map #[] 0)) w.heap.size [] := ⟨⟨_, World.ownsMap_made _ _ _ _, fun x _ => (show false = decide (x ∈ ([] : List Int)) by simp)⟩, List.nodup_nil⟩
theorem SeenT.lt {w : World} {b : Nat} {s : List Int} (h : SeenT w b s) : b < w.heap.size := by obtain ⟨D, h1, _⟩ := h.ex; exact h1.lt
theorem SeenT.store {w : World} {m : Nat} {s : List Int} {x : Int} (h : SeenT w m s) (hx : I64 x) (hn : s.length ≤ 1000000) : ∃ w', (Instr.mapUpdate 110 (.map (some m)) (.int .i64 x) (.agg #[])).run Tryz.prog w = .ok () w' ∧ SeenT w' m (if x ∈ s then s else x :: s) ∧ w.grownBy w' (some m) := by
  obtain ⟨D, hown, hD⟩ := h.ex
  obtain ⟨w', hr, h1, h2⟩ := World.ownsMap.update (val := .agg #[]) (d := .agg []) (ps := []) hown keyedInt Tryz.underlying110 (show s.length < maxLen by unfold maxLen; omega) (keyInt hx) rfl
  have hsz := size_put (hown.tidy keyedInt) (k := .int .i64 x) (DataW.agg ([] : List (DataW Unit)))
  have hle := hown.size_le
  refine ⟨w', hr, ⟨⟨_, (own_tight h1).mono ?_, fun y hy => ?_⟩, ?_⟩, h2⟩
  · rw [hsz, hD x hx]
    by_cases e : x ∈ s
    · rw [if_pos (decide_eq_true e), if_pos e]; exact hle
    · rw [if_neg (by rw [decide_eq_false e]; simp), if_neg e, List.length_cons]; omega
  · have hmem : (y ∈ (if x ∈ s then s else x :: s)) ↔ y = x ∨ y ∈ s := by
      by_cases e : x ∈ s
      · rw [if_pos e]
        exact ⟨Or.inr, fun q => q.elim (fun z => by rw [z]; exact e) id⟩
      · rw [if_neg e, List.mem_cons]
    by_cases e : x = y
    · subst e
      rw [has_put_same hown.isMap (keyedInt.key (keyInt hx))]
      exact (decide_eq_true (hmem.2 (Or.inl rfl))).symm
    · have hk : (Lit.int .i64 y) ≠ Lit.int .i64 x := fun q => by injection q with _ q; exact e q.symm
      rw [has_put_other hk, hD y hy]
      by_cases hm : y ∈ s
      · rw [decide_eq_true hm, decide_eq_true (hmem.2 (Or.inr hm))]
      · rw [decide_eq_false hm, decide_eq_false (fun q => by rcases hmem.1 q with q | q; exact e q.symm; exact hm q)]
  · by_cases e : x ∈ s
    · rw [if_pos e]; exact h.nodup
    · rw [if_neg e]; exact List.nodup_cons.2 ⟨e, h.nodup⟩
theorem keys_mem {w : World} {b n : Nat} {D : DataW Unit} (hown : w.ownsMap Tryz.prog 3 unitR b n D) (x : Int) : x ∈ intKeys D ↔ I64 x ∧ has D (.int .i64 x) = true := by
  have hwf := intKeys_wf hown Tryz.underlying3
  obtain ⟨es, rfl, hko⟩ := hown.keysOf
  have hint : ∀ p ∈ es, ∃ y, p.1 = .int .i64 y := fun p hp => by obtain ⟨v, hv⟩ := hko p hp; obtain ⟨y, _, hy, _⟩ := Maps.keyOf_i64 Tryz.underlying3 hv; exact ⟨y, hy⟩
  have hm : x ∈ intKeys (.map es) ↔ has (.map es) (.int .i64 x) = true := by
    rw [has_eq, List.any_eq_true]
    show x ∈ es.map (fun p => Go.intOf p.1) ↔ _
    rw [List.mem_map]
    constructor
    · rintro ⟨p, hp, rfl⟩
      obtain ⟨a, ha⟩ := hint p hp
      exact ⟨p, hp, by rw [ha]; simp [Lit.sameKey, Go.intOf]⟩
    · rintro ⟨p, hp, hs⟩
      obtain ⟨a, ha⟩ := hint p hp
      rw [ha] at hs
      exact ⟨p, hp, by rw [ha]; simpa [Lit.sameKey, Go.intOf] using hs⟩
  constructor
  · intro h
    have h1 := hwf x h
    have h2 : IntKind.i64.min ≤ x ∧ x ≤ 9223372036854775807 := by simpa [Lit.wf] using h1
    have e : IntKind.i64.min = -9223372036854775808 := rfl
    rw [e] at h2
    exact ⟨h2, hm.1 h⟩
  · exact fun h => hm.2 h.2
def libKeys12_ren : Go.Shelf.Ren := ⟨fun | 7 => 73 | 10 => 106 | n => n, fun | 23 => 110 | 26 => 3 | 3 => 111 | 28 => 117 | 0 => 0 | 27 => 116 | 33 => 78 | 4 => 4 | n => n, fun | n => n⟩
theorem libKeys12 : Go.Proofs.SlLaysZI.n7 Tryz.prog libKeys12_ren := {
  mixed := by kernel_rfl
  f7 := ⟨Tryz.f73.name, by decide, Tryz.func73.trans (congrArg some (by kernel_rfl))⟩
  f10 := ⟨Tryz.f106.name, by decide, Tryz.func106.trans (congrArg some (by kernel_rfl))⟩
  t0 := Tryz.underlying0
  a0 := Tryz.isAgg0
  z0 := Tryz.sizeOf0
  v0 := Tryz.zeroValue0
  t4 := Tryz.underlying4
  a4 := Tryz.isAgg4
  z4 := Tryz.sizeOf4
  v4 := Tryz.zeroValue4
  t23 := Tryz.underlying110
  a23 := Tryz.isAgg110
  z23 := Tryz.sizeOf110
  v23 := Tryz.zeroValue110
  t26 := Tryz.underlying3
  a26 := Tryz.isAgg3
  z26 := Tryz.sizeOf3
  v26 := Tryz.zeroValue3
  t27 := Tryz.underlying116
  a27 := Tryz.isAgg116
  z27 := Tryz.sizeOf116
  v27 := Tryz.zeroValue116
  t28 := Tryz.underlying117
  a28 := Tryz.isAgg117
  z28 := Tryz.sizeOf117
  v28 := Tryz.zeroValue117
  t33 := Tryz.underlying78
  a33 := Tryz.isAgg78
  z33 := Tryz.sizeOf78
  v33 := Tryz.zeroValue78 }
def libSorted12_ren : Go.Shelf.Ren := ⟨fun | 6 => 72 | 8 => 104 | 9 => 105 | 11 => 147 | 13 => 149 | 12 => 148 | 23 => 179 | 24 => 180 | 14 => 170 | 15 => 171 | 16 => 172 | 17 => 173 | 18 => 174 | 19 => 175 | 20 => 176 | 21 => 177 | 22 => 178 | 25 => 199 | 26 => 200 | 27 => 201 | 28 => 202 | 29 => 203 | 30 => 167 | 31 => 212 | n => n, fun | 26 => 3 | 28 => 117 | 24 => 80 | 0 => 0 | 3 => 3 | 37 => 74 | 48 => 210 | 50 => 44 | 4 => 4 | 40 => 204 | 39 => 203 | 45 => 96 | 5 => 5 | 9 => 9 | 51 => 229 | 55 => 233 | 57 => 240 | 58 => 241 | 33 => 78 | n => n, fun | n => n⟩
theorem libSorted12 : Go.Proofs.SlLaysZI.n6 Tryz.prog libSorted12_ren := {
  mixed := by kernel_rfl
  f6 := ⟨Tryz.f72.name, by decide, Tryz.func72.trans (congrArg some (by kernel_rfl))⟩
  f8 := ⟨Tryz.f104.name, by decide, Tryz.func104.trans (congrArg some (by kernel_rfl))⟩
  f11 := ⟨Tryz.f147.name, by decide, Tryz.func147.trans (congrArg some (by kernel_rfl))⟩
  t0 := Tryz.underlying0
  a0 := Tryz.isAgg0
  z0 := Tryz.sizeOf0
  v0 := Tryz.zeroValue0
  t24 := Tryz.underlying80
  a24 := Tryz.isAgg80
  z24 := Tryz.sizeOf80
  v24 := Tryz.zeroValue80
  t26 := Tryz.underlying3
  a26 := Tryz.isAgg3
  z26 := Tryz.sizeOf3
  v26 := Tryz.zeroValue3
  t28 := Tryz.underlying117
  a28 := Tryz.isAgg117
  z28 := Tryz.sizeOf117
  v28 := Tryz.zeroValue117
  i26 := by kernel_rfl }
def libSort12_ren : Go.Shelf.Ren := ⟨fun | 5 => 105 | 8 => 149 | 7 => 148 | 19 => 179 | 20 => 180 | 10 => 170 | 11 => 171 | 12 => 172 | 13 => 173 | 14 => 174 | 15 => 175 | 16 => 176 | 17 => 177 | 18 => 178 | 30 => 199 | 31 => 200 | 32 => 201 | 33 => 202 | 34 => 203 | 35 => 167 | 40 => 212 | n => n, fun | 23 => 80 | 25 => 3 | 3 => 3 | 32 => 74 | 22 => 80 | 0 => 0 | 44 => 210 | 46 => 44 | 4 => 4 | 36 => 204 | 35 => 203 | 41 => 96 | 5 => 5 | 9 => 9 | 53 => 229 | 57 => 233 | 63 => 240 | 64 => 241 | n => n, fun | n => n⟩
theorem libSort12 : Go.Proofs.SlLaysM.n5 Tryz.prog libSort12_ren := {
  mixed := by kernel_rfl
  f5 := ⟨Tryz.f105.name, by decide, Tryz.func105.trans (congrArg some (by kernel_rfl))⟩
  f7 := ⟨Tryz.f148.name, by decide, Tryz.func148.trans (congrArg some (by kernel_rfl))⟩
  f8 := Tryz.func149.trans (congrArg some (by kernel_rfl))
  f10 := ⟨Tryz.f170.name, by decide, Tryz.func170.trans (congrArg some (by kernel_rfl))⟩
  f11 := ⟨Tryz.f171.name, by decide, Tryz.func171.trans (congrArg some (by kernel_rfl))⟩
  f12 := ⟨Tryz.f172.name, by decide, Tryz.func172.trans (congrArg some (by kernel_rfl))⟩
  f13 := ⟨Tryz.f173.name, by decide, Tryz.func173.trans (congrArg some (by kernel_rfl))⟩
  f14 := ⟨Tryz.f174.name, by decide, Tryz.func174.trans (congrArg some (by kernel_rfl))⟩
  f15 := ⟨Tryz.f175.name, by decide, Tryz.func175.trans (congrArg some (by kernel_rfl))⟩
  f16 := ⟨Tryz.f176.name, by decide, Tryz.func176.trans (congrArg some (by kernel_rfl))⟩
  f17 := ⟨Tryz.f177.name, by decide, Tryz.func177.trans (congrArg some (by kernel_rfl))⟩
  f18 := ⟨Tryz.f178.name, by decide, Tryz.func178.trans (congrArg some (by kernel_rfl))⟩
  f19 := Tryz.func179.trans (congrArg some (by kernel_rfl))
  f20 := Tryz.func180.trans (congrArg some (by kernel_rfl))
  f30 := ⟨Tryz.f199.name, by decide, Tryz.func199.trans (congrArg some (by kernel_rfl))⟩
  f31 := Tryz.func200.trans (congrArg some (by kernel_rfl))
  f32 := Tryz.func201.trans (congrArg some (by kernel_rfl))
  f33 := ⟨Tryz.f202.name, by decide, Tryz.func202.trans (congrArg some (by kernel_rfl))⟩
  f34 := ⟨Tryz.f203.name, by decide, Tryz.func203.trans (congrArg some (by kernel_rfl))⟩
  f35 := ⟨Tryz.f167.name, by decide, Tryz.func167.trans (congrArg some (by kernel_rfl))⟩
  f40 := ⟨Tryz.f212.name, by decide, Tryz.func212.trans (congrArg some (by kernel_rfl))⟩
  t0 := Tryz.underlying0
  a0 := Tryz.isAgg0
  z0 := Tryz.sizeOf0
  v0 := Tryz.zeroValue0
  t3 := Tryz.underlying3
  a3 := Tryz.isAgg3
  z3 := Tryz.sizeOf3
  v3 := Tryz.zeroValue3
  t4 := Tryz.underlying4
  a4 := Tryz.isAgg4
  z4 := Tryz.sizeOf4
  v4 := Tryz.zeroValue4
  t5 := Tryz.underlying5
  a5 := Tryz.isAgg5
  z5 := Tryz.sizeOf5
  v5 := Tryz.zeroValue5
  t9 := Tryz.underlying9
  a9 := Tryz.isAgg9
  z9 := Tryz.sizeOf9
  v9 := Tryz.zeroValue9
  t22 := Tryz.underlying80
  a22 := Tryz.isAgg80
  z22 := Tryz.sizeOf80
  v22 := Tryz.zeroValue80
  t23 := Tryz.underlying80
  a23 := Tryz.isAgg80
  z23 := Tryz.sizeOf80
  v23 := Tryz.zeroValue80
  t25 := Tryz.underlying3
  a25 := Tryz.isAgg3
  z25 := Tryz.sizeOf3
  v25 := Tryz.zeroValue3
  t32 := Tryz.underlying74
  a32 := Tryz.isAgg74
  z32 := Tryz.sizeOf74
  v32 := Tryz.zeroValue74
  t35 := Tryz.underlying203
  a35 := Tryz.isAgg203
  z35 := Tryz.sizeOf203
  v35 := Tryz.zeroValue203
  t36 := Tryz.underlying204
  a36 := Tryz.isAgg204
  z36 := Tryz.sizeOf204
  v36 := Tryz.zeroValue204
  t41 := Tryz.underlying96
  a41 := Tryz.isAgg96
  z41 := Tryz.sizeOf96
  v41 := Tryz.zeroValue96
  t44 := Tryz.underlying210
  a44 := Tryz.isAgg210
  z44 := Tryz.sizeOf210
  v44 := Tryz.zeroValue210
  t46 := Tryz.underlying44
  a46 := Tryz.isAgg44
  z46 := Tryz.sizeOf44
  v46 := Tryz.zeroValue44
  t53 := Tryz.underlying229
  a53 := Tryz.isAgg229
  z53 := Tryz.sizeOf229
  v53 := Tryz.zeroValue229
  t57 := Tryz.underlying233
  a57 := Tryz.isAgg233
  z57 := Tryz.sizeOf233
  v57 := Tryz.zeroValue233
  t63 := Tryz.underlying240
  a63 := Tryz.isAgg240
  z63 := Tryz.sizeOf240
  v63 := Tryz.zeroValue240
  t64 := Tryz.underlying241
  a64 := Tryz.isAgg241
  z64 := Tryz.sizeOf241
  v64 := Tryz.zeroValue241 }
theorem sorts12 (m : Nat) : AnyZI.SortsIn Tryz.prog libSorted12_ren Fence.wide m :=
  ⟨fun blk off cap ss W hH hblk hsz => callsIn_wide.2 (AnyM.slices_Sort_int libSort12 blk off cap ss W hH hblk hsz),
   fun p cap W => callsIn_wide.2 (AnyM.slices_Sort_int_none libSort12 p cap W)⟩
theorem keysOf12 (mb : Option Nat) (W : World) : Calls Tryz.prog 73 #[.map mb] W fun e w' => e = .returned (.func (.func 106) #[] #[.pointer (some ⟨W.heap.size, 0, none⟩)]) ∧ w' = W.alloc (.cells #[.map mb] 110) :=
  (callsIn_wide (n := 5)).1 (AnyZI.keys_in libKeys12 Fence.wide 5 trivial rfl mb W)
theorem sortedOf12 {w : World} {b n : Nat} {D : DataW Unit} (hown : w.ownsMap Tryz.prog 3 unitR b n D) (hmax : Maps.size D ≤ 20000) :
    Calls Tryz.prog 72 #[.func (.func 106) #[] #[.pointer (some ⟨w.heap.size, 0, none⟩)]] (w.alloc (.cells #[.map (some b)] 110)) fun e w' => ∃ (v : Value) (ss : List Int), e = .returned v ∧ ss.Perm (intKeys D) ∧ w'.ownsRow w.heap.size 3 1 v ss.length ((ss.mergeSort (fun x y => decide (x ≤ y))).map (Value.int .i64)) ∧ Below w.heap.size w w' := by
  have hbl := hown.lt
  have hseq : SeqGives Fence.wide 2 Tryz.prog 106 #[.pointer (some ⟨w.heap.size, 0, none⟩)] encZ (fun ss => ss.Perm (intKeys D)) (Maps.size D) (w.alloc (.cells #[.map (some b)] 110)) :=
    AnyZI.keys_gives (ρ := libKeys12_ren) { libKeys12 with } Fence.wide _ trivial rfl (by omega) w.heap.size b n D _ (by simp) (by simp) (by
      obtain ⟨es, clock, hb, Ft, hs, hD⟩ := hown
      exact ⟨es, clock, (Below.heap_alloc _ _ b hbl).trans hb, Ft, hs, hD⟩)
  have cS := AnyZI.sorted_in libSorted12 Fence.wide 5 trivial trivial trivial trivial rfl (by omega) (sorts12 _) (enters_of Tryz.func105 (by kernel_rfl) rfl) 106 #[.pointer (some ⟨w.heap.size, 0, none⟩)] trivial (enters_of Tryz.func106 (by kernel_rfl) rfl) _ _ (by unfold maxLen; omega) (by omega) _ hseq
  refine ((callsIn_wide (n := 5)).1 cS).mono ?_
  rintro e w' ⟨v, ss, rfl, hS, hrow, hnil, hb⟩
  exact ⟨v, ss, rfl, hS, ownsRow_base_a hrow (by simp), ((Below.refl _ w).alloc (Nat.le_refl _) _).trans (hb.mono (by simp))⟩

end Go.Proofs.YthifbaacmohmnaaGreat

/- formula.Atoms: the numbers of a formula. -/
namespace Go.Proofs.YthifbaacmohmnaaGreat
open Go.RowKit Go.Maps Go.Sort Go.Shelf Go.Proofs
set_option linter.unusedSimpArgs false
set_option linter.unusedVariables false

set_option maxRecDepth 100000 in
set_option maxHeartbeats 8000000 in
theorem lAtoms (f : Fm) (N : Nat) (A : Option Addr) (n c : Nat) (w : World) (h : FmAt w (.slice A n c) f) (hN : N ≤ 20000) (hI : ∀ q ∈ f, ∀ x ∈ q, 0 ≤ x ∧ x < (N : Int)) :
    Calls Tryz.prog 42 #[.slice A n c] w fun e w' => ∃ (v : Value) (l : List Int), e = .returned v ∧ w'.ownsRow w.heap.size 3 1 v l.length (l.map (Value.int .i64)) ∧ (∀ x, x ∈ l ↔ ∃ q ∈ f, x ∈ q) ∧ l.length ≤ 20000 ∧ Below w.heap.size w w' := by
  have HF := Lib.hid h
  have HI := Lib.hid hI
  have hm := h.max
  obtain rfl := h.len
  clear h hI
  have hmm := @run_makeMap Tryz.prog
  go_enter Tryz.func42, Tryz.ntmps42
  go_wp2_with fail
  go_loopw [11] (fun v wr => ∃ (j : Nat) (s : List Int), j ≤ f.length ∧ v = .int .i64 j ∧ Hid (Below w.heap.size w wr) ∧ Hid (SeenT wr w.heap.size s) ∧ Hid (∀ x, x ∈ s ↔ ∃ q ∈ f.take j, x ∈ q)) (fun v _ => f.length - (intOf v).toNat)
  case atStart =>
    exact ⟨0, [], Nat.zero_le _, rfl, Lib.hid ((Below.refl _ _).alloc (Nat.le_refl _) _), Lib.hid (SeenT.made w), Lib.hid (fun x => by simp)⟩
  case round =>
    clear hmm
    obtain ⟨j, s, hj, rfl, HB, HS, HM⟩ := hrel
    by_cases hlt : j < f.length
    · have g1 : (0 : Int) ≤ (j : Int) := by omega
      have g2 : (j : Int) < (f.length : Int) := by omega
      obtain ⟨b, off, A2, c2, rfl, _, q0, hp⟩ := (HF.out.next HB.out).at j hlt
      obtain ⟨q, hq⟩ : ∃ q, paAt f j = q := ⟨_, rfl⟩
      rw [hq] at q0 hp
      have HQ : Hid (f[j] = q) := Lib.hid (by rw [← hq, paAt_lt hlt])
      have hqm : q ∈ f := by rw [← HQ.out]; exact List.getElem_mem hlt
      have HQm := Lib.hid hqm
      have HP : Hid (∀ w', Below w.heap.size w w' → IntsAt w' (.slice A2 q.length c2) q) := Lib.hid (fun w' hb => by
        obtain ⟨b', off', A3, c3, e, _, r0, hp'⟩ := (HF.out.next hb).at j hlt
        injection e with e
        injection e with e1 e2 _
        subst e1 e2
        rw [hq] at r0 hp'
        have hbl : b < w.heap.size := by
          obtain ⟨b9, off9, A9, c9, e9, hlt9, _, _⟩ := HF.out.at j hlt
          injection e9 with e9
          injection e9 with e9 _ _
          omega
        have h1 := (World.cell?_of_block (a := ⟨b, off + j, none⟩) (HB.out.block b hbl)).symm.trans q0
        have h2 := (World.cell?_of_block (a := ⟨b, off + j, none⟩) (hb.block b hbl)).symm.trans r0
        rw [h1] at h2
        injection h2 with h2
        rw [h2]
        exact hp')
      have hmq := hp.max
      clear hq hp hqm
      go_wp2_with fail
      go_loopw [17] (fun v wo => ∃ (i : Nat) (s' : List Int), i ≤ q.length ∧ v = .int .i64 i ∧ Hid (Below w.heap.size w wo) ∧ Hid (SeenT wo w.heap.size s') ∧ Hid (∀ x, x ∈ s' ↔ x ∈ s ∨ x ∈ q.take i)) (fun v _ => q.length - (intOf v).toNat)
      case atStart => exact ⟨0, s, Nat.zero_le _, rfl, HB, HS, Lib.hid (fun x => by simp)⟩
      case round =>
        obtain ⟨i, s', hi, rfl, HB2, HS2, HM2⟩ := hrel
        by_cases hil : i < q.length
        · have k1 : (0 : Int) ≤ (i : Int) := by omega
          have k2 : (i : Int) < (q.length : Int) := by omega
          obtain ⟨b2, off2, rfl, _, r0⟩ := (HP.out wr HB2.out).at i hil
          obtain ⟨x, hx⟩ : ∃ x, inAt q i = x := ⟨_, rfl⟩
          rw [hx] at r0
          have HXe : Hid (q[i] = x) := Lib.hid (by rw [← hx, inAt_lt hil])
          have hxb := HI.out q HQm.out x (by rw [← HXe.out]; exact List.getElem_mem hil)
          have hsl : s'.length ≤ N := nodup_in HS2.out.nodup (fun z hz => by
            rcases (HM2.out z).1 hz with h1 | h1
            · obtain ⟨q2, h2, h3⟩ := (HM.out z).1 h1
              exact HI.out q2 (List.mem_of_mem_take h2) z h3
            · exact HI.out q HQm.out z (List.mem_of_mem_take h1))
          obtain ⟨w', hr, hs', hg'⟩ := HS2.out.store (x := x) (by unfold I64; omega) (by omega)
          have HS3 := Lib.hid hs'
          have HB3 : Hid (Below w.heap.size w w') := Lib.hid (HB2.out.grown hg' HB2.out.size (fun b e => by injection e with e; omega))
          clear hx hs' hg' hxb hsl q0
          go_wp2_with fail
          refine ⟨⟨i + 1, _, by omega, by go_num, HB3, HS3, Lib.hid (fun y => ?_)⟩, by simp [intOf]; omega⟩
          rw [List.take_succ_eq_append_getElem hil, List.mem_append, List.mem_singleton, HXe.out]
          have hm2 := HM2.out y
          by_cases e : x ∈ s'
          · rw [if_pos e, hm2]
            constructor
            · rintro (z | z)
              · exact Or.inl z
              · exact Or.inr (Or.inl z)
            · rintro (z | z | z)
              · exact Or.inl z
              · exact Or.inr z
              · subst z; exact hm2.1 e
          · rw [if_neg e, List.mem_cons, hm2]
            constructor
            · rintro (z | z | z)
              · exact Or.inr (Or.inr z)
              · exact Or.inl z
              · exact Or.inr (Or.inl z)
            · rintro (z | z | z)
              · exact Or.inr (Or.inl z)
              · exact Or.inr (Or.inr z)
              · exact Or.inl z
        · obtain rfl : i = q.length := by omega
          go_wp2_with fail
          refine ⟨⟨j + 1, s', by omega, by go_num, HB2, HS2, Lib.hid (fun y => ?_)⟩, by simp [intOf]; omega⟩
          have hm2 := HM2.out y
          rw [List.take_length] at hm2
          rw [hm2, HM.out y, List.take_succ_eq_append_getElem hlt, HQ.out]
          constructor
          · rintro (⟨q2, z1, z2⟩ | z)
            · exact ⟨q2, List.mem_append_left _ z1, z2⟩
            · exact ⟨q, by simp, z⟩
          · rintro ⟨q2, z1, z2⟩
            rcases List.mem_append.1 z1 with z1 | z1
            · exact Or.inl ⟨q2, z1, z2⟩
            · rw [List.mem_singleton.1 z1] at z2; exact Or.inr z2
    · obtain rfl : j = f.length := by omega
      obtain ⟨D, hown, hD⟩ := HS.out.ex
      have hsN : s.length ≤ N := nodup_in HS.out.nodup (fun z hz => by
        obtain ⟨q2, h2, h3⟩ := (HM.out z).1 hz
        exact HI.out q2 (List.mem_of_mem_take h2) z h3)
      have hsz : Maps.size D ≤ 20000 := by have := hown.size_le; omega
      have HK : Hid (∀ x, x ∈ intKeys D ↔ ∃ q ∈ f, x ∈ q) := Lib.hid (fun x => by
        rw [keys_mem hown x]
        have hmx := HM.out x
        rw [List.take_length] at hmx
        constructor
        · rintro ⟨h1, h2⟩
          rw [hD x h1] at h2
          exact hmx.1 (of_decide_eq_true h2)
        · intro h2
          obtain ⟨q2, z1, z2⟩ := id h2
          have h1 : I64 x := by have := HI.out q2 z1 x z2; unfold I64; omega
          exact ⟨h1, by rw [hD x h1]; exact decide_eq_true (hmx.2 h2)⟩)
      have HLn : Hid ((intKeys D).length = Maps.size D) := Lib.hid (by
        obtain ⟨es, rfl, _⟩ := hown.keysOf
        simp [intKeys, Maps.size])
      have HS5 := Lib.hid (sortedOf12 hown hsz)
      have HSz := Lib.hid hsz
      clear hown hD hsN hsz
      go_wp2_with fail
      refine (keysOf12 _ wr).mono ?_
      rintro e w2 ⟨rfl, rfl⟩
      go_wp2_with fail
      refine HS5.out.mono ?_
      rintro e w5 ⟨v, ss, rfl, hp, hrow, hb⟩
      have HP := Lib.hid hp
      have HRow := Lib.hid hrow
      have HB5 := Lib.hid (HB.out.trans (hb.mono HB.out.size))
      obtain ⟨A7, c7, hv7⟩ := own_slice hrow
      subst hv7
      clear hp hrow hb
      go_wp2_with fail
      go_ret
      refine ⟨_, ss.mergeSort (fun x y => decide (x ≤ y)), rfl, ?_, fun x => ?_, ?_, HB5.out⟩
      · rw [List.length_mergeSort]
        exact ownsRow_base_a HRow.out HB.out.size
      · rw [sort_mem, HP.out.mem_iff, HK.out x]
      · rw [List.length_mergeSort, HP.out.length_eq, HLn.out]
        exact HSz.out

end Go.Proofs.YthifbaacmohmnaaGreat

/- Accepts of package linear. -/
namespace Go.Proofs.YthifbaacmohmnaaGreat
open Go.RowKit
set_option linter.unusedSimpArgs false
set_option linter.unusedVariables false

/-- Between two askings of Accepts. -/
structure AccI (p : LP) (w0 : World) (ns : List Nd) (F : Nat → Prop) (bx : Nat) (W : World) : Prop where
  lw : LW p W ns F false
  box : At W bx 63 #[.pointer (some ⟨p.gw, 0, none⟩)]
  below : Below w0.heap.size w0 W
set_option maxRecDepth 100000 in
set_option maxHeartbeats 4000000 in
theorem lIsOff {p : LP} {w0 W : World} {ns : List Nd} {F : Nat → Prop} {bx : Nat} {x : Int} (h : AccI p w0 ns F bx W) (hx : isIn ns x) (hn : w0.heap.size ≤ p.mn) (hb : bx ≠ p.mn) :
    Calls Tryz.prog 38 #[.int .i64 x, .pointer (some ⟨bx, 0, none⟩)] W fun e W' => e = .returned (.bool (!nullS ns p.bt x)) ∧ AccI p w0 ns F bx W' ∧ OffF (fun b => b = p.mn) W W' := by
  have HN := Lib.hid (lNullN h.lw x hx)
  have HH := Lib.hid h
  have c0 := h.box.cell 0
  obtain ⟨r, hr⟩ : ∃ r, nullS ns p.bt x = r := ⟨_, rfl⟩
  unfold NullPost2 at HN
  rw [hr] at HN ⊢
  clear h hr
  go_enter Tryz.func38, Tryz.ntmps38
  go_wp2_with fail
  refine HN.out.mono ?_
  rintro e w1 ⟨rfl, hg⟩
  have HG := Lib.hid hg
  have HE : Hid (AccI p w0 ns F bx w1) := Lib.hid ⟨hg.lw, (hg.n.block bx HH.out.box.lt hb).trans HH.out.box, below_of_off HH.out.below hg.n (fun b q => by rw [q]; exact hn)⟩
  clear hg
  cases r
  · go_wp2_with fail
    go_ret
    exact ⟨rfl, HE.out, HG.out.n⟩
  · go_wp2_with fail
    go_ret
    exact ⟨rfl, HE.out, HG.out.n⟩
set_option maxRecDepth 100000 in
set_option maxHeartbeats 4000000 in
theorem lDeleteNil (Inv : World → Prop) (bx : Value) (A : Option Addr) (c : Nat) (w : World) (h : Inv w) (hc : c ≤ 9223372036854775807) :
    Calls Tryz.prog 41 #[.slice A 0 c, .func (.func 38) #[] #[bx]] w fun e w' => e = .returned (.slice A 0 c) ∧ Inv w' := by
  have HIx := Lib.hid (lIndexA [] (fun _ => false) Inv bx A 0 c w h (fun W z => ⟨A, c, rfl, Nat.zero_le _, hc, (fun x hx => by cases hx), fun q => absurd q (Nat.lt_irrefl _)⟩) (fun W x z hx => by cases hx))
  clear h
  go_enter Tryz.func41, Tryz.ntmps41
  go_wp2_with fail
  refine HIx.out.mono ?_
  rintro e w1 ⟨r, rfl, hk, hv⟩
  have HV := Lib.hid hv
  clear hv HIx
  rcases hk with ⟨rfl, h0⟩ | ⟨k, hkl, _⟩
  · go_wp2_with fail
    go_ret
    exact ⟨rfl, HV.out⟩
  · exact absurd hkl (Nat.not_lt_zero _)
/-- What Holds is asked of. -/
theorem acc_val {ns : List Nd} {f : Fm} {l : List Int} {q : Int → Bool} (hl : ∀ x, x ∈ l ↔ ∃ p ∈ f, x ∈ p) : fP (fun x => decide (x ∈ l.filter (fun x => !(!q x)))) f = fP q f := fP_agree (fun p hp n hn => by
  rw [Bool.eq_iff_iff, decide_eq_true_eq, List.mem_filter, Bool.not_not]
  exact ⟨fun z => z.2, fun z => ⟨(hl n).2 ⟨p, hp, hn⟩, z⟩⟩)
set_option maxRecDepth 100000 in
set_option maxHeartbeats 8000000 in
theorem lAccepts {w : World} {a : Value} {ns : List Nd} {F : Nat → Prop} {A : Option Addr} {n c : Nat} {f : Fm} (bt : Nat) (h : AA w a ns F) (hv : FmAt w (.slice A n c) f) (hf : OkL ns f) (hbt : bt < 256) :
    Calls Tryz.prog 13 #[a, .slice A n c, .int .u8 bt] w fun e w' => e = .returned (.bool (fP (fun x => nullS ns bt x) f)) ∧ Below w.heap.size w w' := by
  have HO := Lib.hid (lIsOver h hv hf)
  have HA := Lib.hid h
  have HV := Lib.hid hv
  have HF := Lib.hid hf
  have hmx := arenaMid.max h
  clear h hv hf
  go_enter Tryz.func13, Tryz.ntmps13
  go_wp2_with fail
  refine HO.out.mono ?_
  rintro e w1 ⟨rfl, hb1⟩
  have HB1 := Lib.hid hb1
  have HBe := Lib.hid (lBegin 0 bt (HA.out.next hb1) (by omega) hbt)
  clear hb1 HO
  go_wp2_with fail
  refine HBe.out.mono ?_
  rintro e w2 ⟨p, rfl, hbg⟩
  have HBg := Lib.hid hbg
  obtain ⟨w3, hw3⟩ : ∃ w3, w3 = w2.alloc (.cells #[.pointer (some ⟨p.gw, 0, none⟩)] 63) := ⟨_, rfl⟩
  have hb23 : Below w2.heap.size w2 w3 := by rw [hw3]; exact (Below.refl _ _).alloc (Nat.le_refl _) _
  have hbx : At w3 w2.heap.size 63 #[.pointer (some ⟨p.gw, 0, none⟩)] := by rw [hw3]; exact At.new _ _ _
  have hb13 : Below w.heap.size w w3 := HB1.out.trans ((hbg.below.trans (hb23.mono hbg.below.size)).mono HB1.out.size)
  have HB3 := Lib.hid hb13
  have HBx := Lib.hid hbx
  have HL3 := Lib.hid (hbg.lw.next hb23)
  have HNb : Hid (w2.heap.size ≠ p.mn) := Lib.hid (fun e => by have := hbg.lw.lts.2.2.2; omega)
  have HNn : Hid (w.heap.size ≤ p.mn) := Lib.hid (Nat.le_trans HB1.out.size hbg.new.2.2.2)
  have HBt : Hid (p.bt = bt) := Lib.hid hbg.bt
  have HS23 : Hid (w3.heap.size = w2.heap.size + 1) := Lib.hid (by rw [hw3, World.size_alloc])
  have HAt := Lib.hid (lAtoms f ns.length A n c w3 (HV.out.next hb13) hmx (fun q hq x hx => FmIn.inF HF.out q hq x hx))
  rw [hw3] at HAt
  have HW3 := Lib.hid hw3
  clear hbg hb23 hbx hb13 hw3 HBe
  go_wp2_with fail
  refine HAt.out.mono ?_
  rintro e w4 ⟨v, l, rfl, hrow, hml, hll, hb4⟩
  rw [← HW3.out] at hrow hb4
  have HB4 := Lib.hid (HB3.out.trans (hb4.mono HB3.out.size))
  have HMl := Lib.hid hml
  have HLl := Lib.hid hll
  have hIin : ∀ x ∈ l, isIn ns x := fun x hx => by obtain ⟨q, h1, h2⟩ := (hml x).1 hx; exact FmIn.inF HF.out q h1 x h2
  have hIs : ∀ x ∈ l, IsI x := fun x hx => isIn_IsI hmx (hIin x hx)
  have HIi := Lib.hid hIin
  have hL4 := HL3.out.next hb4
  have hbx4 : At w4 w2.heap.size 63 #[.pointer (some ⟨p.gw, 0, none⟩)] := (hb4.block _ HBx.out.lt).trans HBx.out
  obtain ⟨h1, h2⟩ := id hrow
  have HV4 := Lib.hid (HV.out.next HB4.out)
  rcases h2 with ⟨rfl, hn0⟩ | ⟨g, cap, cur, rfl, hbg, hc, r1, r2, r3, r4⟩
  · have hl0 : l = [] := List.eq_nil_of_length_eq_zero hn0
    subst hl0
    have HDe := Lib.hid (lDeleteNil (AccI p w ns F w2.heap.size) (.pointer (some ⟨w2.heap.size, 0, none⟩)) none 0 w4 ⟨hL4, hbx4, HB4.out⟩ (by omega))
    clear hrow hml hll hb4 hIin hIs hL4 hbx4 h1 hn0
    go_wp2_with fail
    refine HDe.out.mono ?_
    rintro e w5 ⟨rfl, hi5⟩
    have HI5 := Lib.hid hi5
    have HHo := Lib.hid (lHolds f [] A none n c 0 0 w5 (HV.out.next hi5.below) ⟨none, 0, rfl, Nat.le_refl _, (by omega), (fun x hx => by cases hx), fun q => absurd q (Nat.lt_irrefl _)⟩ (by simp))
    clear hi5 HDe
    go_wp2_with fail
    refine HHo.out.mono ?_
    rintro e w6 ⟨rfl, hb6⟩
    have HB6 := Lib.hid (HI5.out.below.trans (hb6.mono HI5.out.below.size))
    clear hb6
    go_wp2_with fail
    go_ret
    refine ⟨?_, HB6.out⟩
    rw [← acc_val (ns := ns) (q := fun x => nullS ns bt x) HMl.out]
    rfl
  · have hglt := (World.ownsRow.lt hrow g rfl).2
    obtain ⟨p1, hp1⟩ : ∃ p1 : LP, p1 = { p with y := fun b => b = g } := ⟨_, rfl⟩
    have hgw : p1.gw = p.gw := by rw [hp1]
    have hmn : p1.mn = p.mn := by rw [hp1]
    have hpb : p1.bt = bt := by rw [hp1]; exact HBt.out
    have hL1 : LW p1 w4 ns F false := by rw [hp1]; exact HL3.out.addY hb4 _ (fun b q => Or.inr (by rw [q]; exact ⟨hbg, hglt⟩))
    have hXg : ¬ XB p1 F g := fun q => by
      rw [hp1] at q
      have := HL3.out.low g q
      omega
    have hbx1 : At w4 w2.heap.size 63 #[.pointer (some ⟨p1.gw, 0, none⟩)] := by rw [hgw]; exact hbx4
    have hnn : w.heap.size ≤ p1.mn := by rw [hmn]; exact HNn.out
    have hnb : w2.heap.size ≠ p1.mn := by rw [hmn]; exact HNb.out
    have hgmn : g ≠ p1.mn := fun e => hXg (Or.inr (Or.inr (Or.inr (Or.inr e))))
    have hyg : p1.y g := by rw [hp1]
    have hg0 : w.heap.size ≤ g := Nat.le_trans HB3.out.size hbg
    have hbg2 : w2.heap.size ≠ g := by have := HS23.out; omega
    have hDR : DR w4 g l.length (inAt l) := by
      refine ⟨hglt, fun j hj => ⟨?_, frozen_of_row w4 g j cur _ hc⟩⟩
      have h5 : (cur.toList.take (l.length * 1))[j]? = (l.map (Value.int .i64))[j]? := by rw [r4]
      rw [Nat.mul_one, List.getElem?_take_of_lt hj] at h5
      have h6 := At.cell (show At w4 g 3 cur from hc) j
      rw [h6, ← Array.getElem?_toList, h5]
      simp [hj, inAt_lt hj]
    have HDe := Lib.hid (lDelete l (fun x => !nullS ns bt x) (AccI p1 w ns F w2.heap.size) (.pointer (some ⟨w2.heap.size, 0, none⟩)) g cap w4 ⟨hL1, hbx1, HB4.out⟩ hDR hIs r1 (by unfold maxLen at r2; omega)
      (fun W W' z hg hs => ⟨z.lw.turnY hg (fun b e => by injection e with e; subst e; exact ⟨hyg, hXg⟩), (hg.block _ z.box.lt (fun e => by injection e with e; exact hbg2 e)).trans z.box, z.below.grown hg z.below.size (fun b e => by injection e with e; omega)⟩)
      (fun W x z hx => (lIsOff z (HIi.out x hx) hnn hnb).mono (fun e W' q => ⟨by rw [q.1, hpb], q.2.1, q.2.2.block g (z.lw.ylow g hyg) hgmn, q.2.2.size⟩)))
    have HFl : Hid ((l.filter (fun x => !(!nullS ns bt x))).length ≤ 20000) := Lib.hid (Nat.le_trans (List.length_filter_le _ _) HLl.out)
    have HVal : Hid (fP (fun x => decide (x ∈ l.filter (fun x => !(!nullS ns bt x)))) f = fP (fun x => nullS ns bt x) f) := Lib.hid (acc_val (ns := ns) (q := fun x => nullS ns bt x) HMl.out)
    obtain ⟨l2, hl2⟩ : ∃ l2, l.filter (fun x => !(!nullS ns bt x)) = l2 := ⟨_, rfl⟩
    rw [hl2] at HFl HVal HDe
    clear hrow hml hll hb4 hIin hIs hL4 hbx4 h1 hc r1 r2 r3 r4 hglt hp1 hgw hmn hpb hL1 hXg hbx1 hnn hnb hgmn hyg hg0 hbg2 hDR hbg hl2
    go_wp2_with fail
    refine HDe.out.mono ?_
    rintro e w5 ⟨rfl, hi5, ha5⟩
    have HI5 := Lib.hid hi5
    have HHo := Lib.hid (lHolds f l2 A (some ⟨g, 0, none⟩) n c _ cap w5 (HV.out.next hi5.below) ha5 HFl.out)
    rw [HVal.out] at HHo
    clear hi5 ha5 HDe
    go_wp2_with fail
    refine HHo.out.mono ?_
    rintro e w6 ⟨rfl, hb6⟩
    have HB6 := Lib.hid (HI5.out.below.trans (hb6.mono HI5.out.below.size))
    clear hb6
    go_wp2_with fail
    go_ret
    exact ⟨rfl, HB6.out⟩

end Go.Proofs.YthifbaacmohmnaaGreat
