/- and of package linear at the functions that it is handed. -/
import Derived.Test.YthifbaacmohmnaaGreatMbc
namespace Go.Proofs.YthifbaacmohmnaaGreat
open Go.RowKit
set_option linter.unusedSimpArgs false
set_option linter.unusedVariables false

theorem fCompact2 {w : World} {base : Nat} {v : Value} {l : List Int} (h : Ints w base v l) (hI : ∀ x ∈ l, IsI x) (hl : l.length ≤ 1000000000) :
    Calls Tryz.prog 109 #[v] w fun e w' => ∃ A c, e = .returned (.slice A (Lib.compact l).length c) ∧ IntsAt w' (.slice A (Lib.compact l).length c) (Lib.compact l) ∧ (∀ b off s, A = some ⟨b, off, s⟩ → v.ownBlock = some b) ∧ w.grownBy w' v.ownBlock := by
  obtain ⟨h1, h2⟩ := id h
  have hcl := Lib.compact_length_le l
  have hmem : ∀ x ∈ Lib.compact l, x ∈ l := by
    intro x hx
    unfold Lib.compact Lib.compactUpTo at hx
    obtain ⟨i, hi, rfl⟩ := List.mem_map.1 hx
    have hi' : i < l.length := List.mem_range.1 (List.mem_filter.1 hi).1
    rw [getElem!_pos l.toArray i (by simpa using hi')]
    simp
  rcases h2 with ⟨rfl, hn⟩ | ⟨g, cap, cur, rfl, hbg, hc, r1, r2, r3, r4⟩
  · obtain rfl : l = [] := List.eq_nil_of_length_eq_zero hn
    refine (lib_slices_Compact_int_empty none 0 w).mono ?_
    rintro e w' ⟨rfl, rfl⟩
    exact ⟨none, 0, rfl, ⟨none, 0, rfl, Nat.le_refl _, by omega, (fun x hx => by cases hx), fun h => absurd h (Nat.lt_irrefl _)⟩, (fun b off s e => by cases e), ⟨rfl, rfl, rfl, Nat.le_refl _, fun _ _ _ => rfl⟩⟩
  · have hg : g < w.heap.size := (Array.getElem?_eq_some_iff.1 hc).1
    have hfree : ∀ j, w.frozen? ⟨g, j, none⟩ = false := fun j => At.free (t := 3) (cs := cur) hc j
    have hcell : ∀ j, j < l.length → w.cell? ⟨g, 0 + j, none⟩ = some (.int .i64 (l.getD j 0)) := fun j hj => by
      rw [Nat.zero_add, World.ownsRow.cellAt h j (by omega), List.getElem?_map, List.getD_eq_getElem?_getD, List.getElem?_eq_getElem hj]; rfl
    have hL := lib_slices_Compact_int_cells g 0 l.length cap l w (Nat.le_refl _) (by omega) r1 hcell (fun j _ => hfree _)
    rw [List.take_length] at hL
    refine hL.mono ?_
    rintro e w' ⟨rfl, q, rfl⟩
    refine ⟨_, cap, rfl, ⟨_, cap, rfl, by omega, by unfold maxLen at r2; omega, fun x hx => hI x (hmem x hx), fun h0 => ⟨g, 0, rfl, ?_, fun j hj => ?_⟩⟩, (fun b off s e => by injection e with e; injection e with e1 _ _; rw [← e1]; rfl), grown_cells w g 0 q _⟩
    · have := (grown_cells w g 0 q ((Lib.compact l ++ List.replicate (l.length - (Lib.compact l).length) 0).map (Value.int .i64))).size
      omega
    · have ht : (w.drewN q).there g 0 ((Lib.compact l ++ List.replicate (l.length - (Lib.compact l).length) 0).map (Value.int .i64)).length := by
        intro j hj
        have hj' : j < l.length := by simp at hj; omega
        exact ⟨by rw [show (w.drewN q).cell? ⟨g, 0 + j, none⟩ = w.cell? ⟨g, 0 + j, none⟩ from rfl, hcell j hj']; rfl, hfree _⟩
      refine World.rangeAt_setCells_same _ g 0 _ ht j _ ?_
      rw [List.getElem?_map, List.getElem?_append_left hj, List.getElem?_eq_getElem hj, inAt_lt hj]; rfl
theorem Grow.push {p : LP} {w wr w1 : World} {ns ns1 : List Nd} {F F1 : Nat → Prop} {many m1 : Bool} {y1 y' : Nat → Prop} (g : Grow { p with y := y1 } w ns F many wr ns1 F1 m1) (hlw : LW { p with y := y' } w1 ns1 F1 m1) {row : Option Nat} (hg : wr.grownBy w1 row) (hr : ∀ b, row = some b → w.heap.size ≤ b) : Grow { p with y := y' } w ns F many w1 ns1 F1 m1 :=
  ⟨g.more, hlw, g.low, g.off.grown hg (fun b e => Or.inr (hr b e)), g.mono⟩
theorem Grow.lessY {p : LP} {w wr : World} {ns ns1 : List Nd} {F F1 : Nat → Prop} {many m1 : Bool} {y1 : Nat → Prop} (g : Grow { p with y := y1 } w ns F many wr ns1 F1 m1) (hy : ∀ b, p.y b → y1 b) : Grow p w ns F many wr ns1 F1 m1 := ⟨g.more, g.lw.lessY hy, g.low, g.off, g.mono⟩
/-- The truth of nodes at a place. -/
def trueAt (ns : List Nd) (a b : List Nat) (c d : Nat) (n : Int) : Bool := nodeT a b ns n c d
theorem said_up {ns : List Nd} {nums : List Int} {fs : List Fm} (hn : ∀ n ∈ nums, isIn ns n) (hf : ∀ f ∈ fs, InF ns f) (more : List Nd) (a b : List Nat) (c d : Nat) : saidBy nums fs (trueAt (ns ++ more) a b c d) = saidBy nums fs (trueAt ns a b c d) := by
  unfold saidBy
  congr 1
  · rw [Bool.eq_iff_iff, List.all_eq_true, List.all_eq_true]
    constructor
    · intro q n hm
      have := q n hm
      unfold trueAt at this ⊢
      rwa [nodeT_up a b more (hn n hm)] at this
    · intro q n hm
      have := q n hm
      unfold trueAt at this ⊢
      rwa [nodeT_up a b more (hn n hm)]
  · rw [Bool.eq_iff_iff, List.all_eq_true, List.all_eq_true]
    constructor
    · intro q f hm
      have := q f hm
      rwa [show fP (trueAt (ns ++ more) a b c d) f = fP (trueAt ns a b c d) f from fP_up (hf f hm) more c d] at this
    · intro q f hm
      have := q f hm
      rwa [show fP (trueAt (ns ++ more) a b c d) f = fP (trueAt ns a b c d) f from fP_up (hf f hm) more c d]
theorem FRow.inF {X : Nat → Prop} {ns : List Nd} {w : World} {base : Nat} {v : Value} {os : List Value} {fs : List Fm} (h : FRow X ns w base v os fs) : ∀ f ∈ fs, InF ns f := fun f hf => by
  obtain ⟨k, hk, rfl⟩ := List.mem_iff_getElem.1 hf
  exact (h.keep k hk (by rw [← h.fl]; exact hk)).2.inF
/-- What both rows say, in place of what was asked. -/
def SaidTo (V : List Nat → List Nat → Nat → Nat → Prop) (s : Nat) (val : Int → List Nat → List Nat → Nat → Nat → Bool) (l : List Int) (ns : List Nd) (nums : List Int) (fs : List Fm) : Prop := ∀ (a b : List Nat) (c d : Nat), V a b c d → l.all (fun x => val x a b c d) = saidBy nums fs (trueAt ns a b (c + s) d)
section
variable {p : LP} {w : World} {ns : List Nd} {F : Nat → Prop} {many : Bool}
/-- The product of one part. -/
theorem keeps_prod {w1 : World} {ns1 : List Nd} {F1 : Nat → Prop} {A : Option Addr} {c : Nat} {q : List Int} (hi : IntsAt w1 (.slice A q.length c) q) (hX : ∀ b off s, A = some ⟨b, off, s⟩ → ¬ XY p F1 b) (hlow : ∀ b, XY p F1 b → b < w1.heap.size) : Keeps (XY p F1) (w1.alloc (.cells #[.slice A q.length c] 80)) (.slice (some ⟨w1.heap.size, 0, none⟩) 1 1) [q] := fun w' ho => by
  have hA := At.new w1 80 #[.slice A q.length c]
  have hA' : At w' w1.heap.size 80 #[.slice A q.length c] := (ho.block _ hA.lt (fun z => by have := hlow _ z; omega)).trans hA
  refine ⟨_, 1, rfl, Nat.le_refl _, by omega, fun _ => ⟨_, 0, rfl, hA'.lt, fun j hj => ?_⟩⟩
  have hj : j < 1 := hj
  obtain rfl : j = 0 := by omega
  refine ⟨_, hA'.cell 0, ?_⟩
  show IntsAt w' (.slice A q.length c) q
  obtain ⟨A', c', e, h1, h2, h3, h4⟩ := hi
  injection e with e1 _ e3
  subst e1 e3
  refine ⟨_, _, rfl, h1, h2, h3, fun h0 => ?_⟩
  obtain ⟨b, off, rfl, hb, hc⟩ := h4 h0
  have hbk : w'.heap[b]? = w1.heap[b]? := (ho.block b (by rw [World.size_alloc]; omega) (hX b off none rfl)).trans (Below.heap_alloc _ _ b hb)
  refine ⟨b, off, rfl, Nat.lt_of_lt_of_le hb (Nat.le_trans (by rw [World.size_alloc]; omega) ho.size), fun k hk => ?_⟩
  have := hc k hk
  unfold World.cell? at this ⊢
  rw [hbk]; exact this

set_option maxRecDepth 100000 in
set_option maxHeartbeats 16000000 in
theorem lAndFormula {l : List Int} {v : Value} (h : LW p w ns F many) (hl : KeepsL (XY p F) w v l) (hl2 : l.length ≤ 20000) {V : List Nat → List Nat → Nat → Nat → Prop} {s : Nat} {val : Int → List Nat → List Nat → Nat → Nat → Bool}
    (hof : OfIs p w ns F many 27 (fun x => #[.pointer (some ⟨p.gw, 0, none⟩), .int .i64 x]) l V s val) :
    Calls Tryz.prog 76 #[.pointer (some ⟨p.gw, 0, none⟩), v, .func (.func 27) #[.pointer (some ⟨p.gw, 0, none⟩)] #[]] w (LAns p w ns F many fun ms f => Den V s (fun a b c d => l.all (fun x => val x a b c d)) ms f) := by
  obtain ⟨A, c, rfl, hlc, hc63, _⟩ := hl.here
  have HW := Lib.hid h
  have HL := Lib.hid hl
  have HOf := Lib.hid hof
  have hl63 : l.length ≤ 9223372036854775807 := by omega
  obtain ⟨i0, hi0, hi1, hi2, hi3⟩ := info_parts info_int1
  obtain ⟨j0, hj0, hj1, hj2, hj3⟩ := info_parts info_fm
  clear h hl hof hlc hc63
  go_enter Tryz.func76, Tryz.ntmps76
  go_wp2_with fail
  go_loopw [7, 8, 17] (fun u7 u8 v wr => ∃ (i : Nat) (nums : List Int) (os : List Value) (fs : List Fm) (y1 : Nat → Prop) (ns1 : List Nd) (F1 : Nat → Prop) (many1 : Bool), i ≤ l.length ∧ v = .int .i64 i ∧ Hid (∀ b, p.y b → y1 b) ∧ Hid (Grow { p with y := y1 } w ns F many wr ns1 F1 many1) ∧ Hid (AndI { p with y := y1 } w wr ns1 F1 u7 u8 i nums os fs) ∧ Hid (many1 = false → SaidTo V s val (l.take i) ns1 nums fs)) (fun _ _ v _ => l.length - (intOf v).toNat)
  case atStart => exact ⟨0, [], [], [], p.y, ns, F, many, Nat.zero_le _, rfl, Lib.hid (fun b q => q), Lib.hid (Grow.refl HW.out), Lib.hid ⟨World.ownsRow_nil _ _ _ _, ⟨World.ownsRow_nil _ _ _ _, rfl, fun k a _ => absurd a (Nat.not_lt_zero _)⟩, (fun n hn => by cases hn), Nat.zero_le _, Nat.zero_le _, (fun b e => by cases e), (fun b e => by cases e), (fun b e => by cases e)⟩, Lib.hid (fun _ a b c d _ => rfl)⟩
  case round =>
    obtain ⟨i, nums, os, fs, y1, ns1, F1, many1, hi, rfl, HY, HG, HI, HS⟩ := hrel
    by_cases hlt : i < l.length
    · have h1 : (0 : Int) ≤ (i : Int) := by omega
      have h2 : (i : Int) < (l.length : Int) := by omega
      obtain ⟨b, off, rfl, hbl, q0⟩ := (HL.out wr (OffF.xy (p := p) HG.out.off)).at i hlt
      obtain ⟨x, hx⟩ : ∃ x, inAt l i = x := ⟨_, rfl⟩
      rw [hx] at q0
      have hxe : l[i] = x := by rw [← hx, inAt_lt hlt]
      have HX : Hid (l[i] = x) := Lib.hid hxe
      have HXm : Hid (x ∈ l) := Lib.hid (by rw [← hxe]; exact List.getElem_mem hlt)
      have HC := Lib.hid (HOf.out y1 wr ns1 F1 many1 x HXm.out HG.out)
      clear hx hxe hbl
      go_wp2_with fail
      refine HC.out.mono ?_
      rintro e w3 ⟨v3, f, ns3, F3, many3, rfl, hg3, hk3, hi3, hd3⟩
      have HG3 := Lib.hid (HG.out.trans hg3)
      have HG13 := Lib.hid hg3
      have HI3 := Lib.hid (HI.out.grow hg3)
      have HFi := Lib.hid hi3
      have HD3 := Lib.hid hd3
      have HK3 := Lib.hid hk3
      obtain ⟨A3, c3, hv3⟩ := hk3.at
      subst hv3
      have c7 := hg3.lw.cells.2.2.2.2.2.2.2
      have hfw := hi3.few
      clear hg3 hi3 hd3 hk3 q0 HC
      cases many3
      rotate_left
      · clear c7
        have c7 : w3.cell? ⟨p.gw, 7, none⟩ = some (.bool true) := HG3.out.lw.cells.2.2.2.2.2.2.2
        go_wp2_with fail
        refine (lFalse w3).mono ?_
        rintro e w4 ⟨A4, c4, rfl, hf4, hb4⟩
        have HEnd := Lib.hid ((HG3.out.lessY HY.out).next hb4)
        have HKe := Lib.hid (FmFrom.keeps (HG3.out.lw.lessY HY.out) hf4)
        clear hf4 hb4
        go_wp2_with fail
        go_ret
        exact LAns.done HEnd.out HKe.out (FmIn.nil _) (fun q => by cases q)
      have c7' : w3.cell? ⟨p.gw, 7, none⟩ = some (.bool false) := c7
      clear c7
      have HM1 : Hid (many1 = false) := Lib.hid (by cases many1 with | false => rfl | true => have := HG13.out.mono rfl; cases this)
      have HSd : Hid (∀ a b c d, V a b c d → (l.take (i + 1)).all (fun x => val x a b c d) = (saidBy nums fs (trueAt ns3 a b (c + s) d) && fP (trueAt ns3 a b (c + s) d) f)) := Lib.hid (fun a b c d hv => by
        rw [take_all hlt, HX.out, HS.out HM1.out a b c d hv]
        obtain ⟨m, hm⟩ := HG13.out.more
        congr 1
        · rw [hm, said_up HI.out.inn HI.out.oth.inF]
        · exact (HD3.out rfl a b c d hv).symm)
      by_cases hf0 : f.length = 0
      · have hf : f = [] := List.eq_nil_of_length_eq_zero hf0
        subst hf
        have hz : ((([] : Fm).length : Int) == 0) = true := rfl
        have hz2 : (([] : Fm).length : Int) = 0 := rfl
        clear hf0
        go_wp2_with fail
        refine (lFalse w3).mono ?_
        rintro e w4 ⟨A4, c4, rfl, hf4, hb4⟩
        have HEnd := Lib.hid ((HG3.out.lessY HY.out).next hb4)
        have HKe := Lib.hid (FmFrom.keeps (HG3.out.lw.lessY HY.out) hf4)
        clear hf4 hb4
        go_wp2_with fail
        go_ret
        refine LAns.done HEnd.out HKe.out (FmIn.nil _) (fun _ a b c d hv => ?_)
        have := HSd.out a b c d hv
        rw [show fP (trueAt ns3 a b (c + s) d) [] = false from rfl, Bool.and_false] at this
        rw [fP_false]
        refine (Bool.eq_false_iff.2 (fun q => ?_)).symm
        have h5 : (l.take (i + 1)).all (fun x => val x a b c d) = true := List.all_eq_true.2 (fun y hy => List.all_eq_true.1 q y (List.mem_of_mem_take hy))
        rw [this] at h5; cases h5
      have hz : ((f.length : Int) == 0) = false := (int_ne (by omega)).1
      by_cases hf1 : f.length = 1
      · obtain ⟨q, hq⟩ : ∃ q, f = [q] := by
          match f, hf1 with
          | [q], _ => exact ⟨q, rfl⟩
        subst hq
        obtain ⟨b3, off3, A5, c5, hA3, hb3, q3, hp3⟩ := HK3.out.here.at 0 (by simp)
        subst hA3
        rw [Nat.add_zero] at q3
        have q3' : w3.cell? ⟨b3, off3, none⟩ = some (.slice A5 q.length c5) := q3
        have hp3' : IntsAt w3 (.slice A5 q.length c5) q := hp3
        have e1 : ([q] : Fm).length = 1 := rfl
        have HQl : Hid (q.length ≤ 20000) := Lib.hid (by
          have := HFi.out.part (ls_up ns3) (show q ∈ [q] by simp)
          rw [ls_len] at this
          have := HG3.out.lw.few
          omega)
        obtain ⟨v6, w6, hr6, o1, o2, o3⟩ := append_src (T := 80) (E := 3) Tryz.underlying80 hi0 hi1 hi2 hi3 rfl (by decide) (by decide) w3 w.heap.size u7 nums.length _ _ q.length _ 80 HI3.out.row HG3.out.size hp3'.src (by have := HI3.out.len; have := HQl.out; have : i * 20000 ≤ 20000 * 20000 := Nat.mul_le_mul_right _ (by omega); omega)
        obtain ⟨y2, y2a, y2b, hlw2, ho2, ha2⟩ := HI3.out.push HG3.out.lw HFi.out o1 o2 o3
        have HG6 := Lib.hid (HG3.out.push (y' := y2) hlw2 o2 (fun b e => (World.ownsRow.lt HI3.out.row b e).1))
        have HA6 := Lib.hid ha2
        have HY6 : Hid (∀ b, p.y b → y2 b) := Lib.hid (fun b z => y2a b (HY.out b z))
        have HR6 := Lib.hid hr6
        rw [e1] at hz hf0 hfw ⊢
        clear q3 hp3 hp3' hr6 o1 o2 o3 y2a y2b hlw2 ho2 ha2 hf1 hb3
        go_wp2_with (first | (at_builtin; refine Lib.wpList_append_run _ rfl _ _ _ _ rfl _ _ rfl rfl v6 w6 HR6.out ?_) | fail)
        refine ⟨⟨i + 1, nums ++ q, os, fs, y2, ns3, F3, false, by omega, by go_num, HY6, HG6, HA6, Lib.hid (fun _ a b c d hv => ?_)⟩, by simp [intOf]; omega⟩
        rw [HSd.out a b c d hv]
        unfold saidBy fP
        rw [List.all_append, List.any_cons, List.any_nil, Bool.or_false]
        cases nums.all (trueAt ns3 a b (c + s) d) <;> cases q.all (trueAt ns3 a b (c + s) d) <;> cases fs.all (fun f => List.any f fun p => p.all (trueAt ns3 a b (c + s) d)) <;> rfl
      · have hz1 : ((f.length : Int) == 1) = false := (int_ne (by omega)).1
        have hal : Below w3.heap.size w3 (w3.alloc (.cells #[.slice A3 f.length c3] 29)) := (Below.refl _ _).alloc (Nat.le_refl _) _
        have hga := Grow.of HG3.out.lw hal
        have HI4 := HI3.out.grow hga
        have HK4 := HK3.out.grow hga
        obtain ⟨v6, w6, hr6, o1, o2, o3⟩ := append_src (T := 147) (E := 29) Tryz.underlying147 hj0 hj1 hj2 hj3 rfl (by decide) (by decide) _ w.heap.size u8 os.length os _ 1 _ 147 HI4.oth.own (Nat.le_trans HG3.out.size hal.size) (one_src w3 A3 f.length c3) (by have := HI4.few; omega)
        obtain ⟨y2, y2a, y2b, hlw2, ho2, ha2⟩ := HI4.pushF hga.lw HK4 HFi.out o1 o2 o3
        have HG6 := Lib.hid ((HG3.out.trans hga).push (y' := y2) hlw2 o2 (fun b e => (World.ownsRow.lt HI4.oth.own b e).1))
        have HA6 := Lib.hid ha2
        have HY6 : Hid (∀ b, p.y b → y2 b) := Lib.hid (fun b z => y2a b (HY.out b z))
        have HR6 := Lib.hid hr6
        clear hr6 o1 o2 o3 y2a y2b hlw2 ho2 ha2 hf1 hal hga HI4 HK4
        go_wp2_with (first | (at_builtin; refine Lib.wpList_append_run _ rfl _ _ _ _ rfl _ _ rfl rfl v6 w6 HR6.out ?_) | fail)
        refine ⟨⟨i + 1, nums, os ++ [.slice A3 f.length c3], fs ++ [f], y2, ns3, F3, false, by omega, by go_num, HY6, HG6, HA6, Lib.hid (fun _ a b c d hv => ?_)⟩, by simp [intOf]; omega⟩
        rw [HSd.out a b c d hv]
        unfold saidBy
        rw [List.all_append, List.all_cons, List.all_nil, Bool.and_true, Bool.and_assoc]
    · obtain rfl : i = l.length := by omega
      have HSd : Hid (many1 = false → SaidTo V s val l ns1 nums fs) := Lib.hid (fun hm => by have := HS.out hm; rw [List.take_length] at this; exact this)
      have hnl : nums.length ≤ 1000000000 := by have := HI.out.len; have : l.length * 20000 ≤ 20000 * 20000 := Nat.mul_le_mul_right _ hl2; omega
      have HNi : Hid (∀ n ∈ nums, IsI n) := Lib.hid (fun n hn => by have := HI.out.inn n hn; have := HG.out.lw.few; unfold isIn at *; unfold IsI; omega)
      go_wp2_with fail
      refine (fSort HI.out.row hnl).mono ?_
      rintro e w2 ⟨rfl, hs, hgs⟩
      have hlw2 := HG.out.lw.turnY hgs (fun b e => HI.out.x7 b e)
      have ho2 : OffF (XY { p with y := y1 } F1) wr w2 := ⟨hgs.os, hgs.tape, hgs.output, hgs.size, fun b hb hn => hgs.block b hb (fun e => hn (Or.inr (HI.out.x7 b e.symm).1))⟩
      have HG2 := Lib.hid (HG.out.push (y' := y1) hlw2 hgs (fun b e => (World.ownsRow.lt HI.out.row b e).1))
      have HF2 : Hid (FRow (XY { p with y := y1 } F1) ns1 w2 w.heap.size u8 os fs) := Lib.hid ⟨own_grown HI.out.oth.own hgs (fun b e z => HI.out.ap b z e), HI.out.oth.fl, fun k a b => ⟨(HI.out.oth.keep k a b).1.step ho2 (fun b z => Or.inl z), (HI.out.oth.keep k a b).2⟩⟩
      have HIn := Lib.hid hs
      have hsl : (nums.mergeSort fun x y => decide (x ≤ y)).length = nums.length := List.length_mergeSort _
      have HCo := Lib.hid (fCompact2 hs (fun x hx => HNi.out x (List.mem_mergeSort.1 hx)) (by rw [hsl]; exact hnl))
      have hcu := compact_up (sort_le nums)
      obtain ⟨q, hq⟩ : ∃ q, Lib.compact (nums.mergeSort fun x y => decide (x ≤ y)) = q := ⟨_, rfl⟩
      rw [hq] at HCo hcu
      have HCu : Hid (Up q ∧ ∀ n, n ∈ q ↔ n ∈ nums) := Lib.hid ⟨hcu.1, fun n => (hcu.2 n).trans (sort_mem nums n)⟩
      clear hs hgs hlw2 ho2 hsl hcu hq
      go_wp2_with fail
      refine HCo.out.mono ?_
      rintro e w4 ⟨A4, c4, rfl, hi4, hA4, hg4⟩
      have hlw4 := HG2.out.lw.turnY hg4 (fun b e => HI.out.x7 b e)
      have ho4 : OffF (XY { p with y := y1 } F1) w2 w4 := ⟨hg4.os, hg4.tape, hg4.output, hg4.size, fun b hb hn => hg4.block b hb (fun e => hn (Or.inr (HI.out.x7 b e.symm).1))⟩
      have HG4 := Lib.hid (HG2.out.push (y' := y1) hlw4 hg4 (fun b e => (World.ownsRow.lt HI.out.row b e).1))
      have hF4 : FRow (XY { p with y := y1 } F1) ns1 w4 w.heap.size u8 os fs := ⟨own_grown HF2.out.own hg4 (fun b e z => HI.out.ap b z e), HF2.out.fl, fun k a b => ⟨(HF2.out.keep k a b).1.step ho4 (fun b z => Or.inl z), (HF2.out.keep k a b).2⟩⟩
      have HGp := Lib.hid (HG4.out.lessY HY.out)
      have hFp : FRow (XY p F1) ns1 w4 w.heap.size u8 os fs := ⟨hF4.own, hF4.fl, fun k a b => ⟨(hF4.keep k a b).1.less (fun b z => z.imp id (HY.out b)), (hF4.keep k a b).2⟩⟩
      have hba : Below w4.heap.size w4 (w4.alloc (.cells #[.slice A4 q.length c4] 80)) := (Below.refl _ _).alloc (Nat.le_refl _) _
      have HG5 := Lib.hid (HGp.out.next hba)
      have HF5 := Lib.hid (hFp.grow (Grow.of HGp.out.lw hba) (fun b e => (HI.out.x8 b e).2))
      have HK5 := Lib.hid (keeps_prod (p := p) (ns1 := ns1) (F1 := F1) hi4 (fun b off s e z => by
        have hb := hA4 b off s e
        rcases z with z | z
        · exact (HI.out.x7 b hb).2 z
        · have h1 := HW.out.ylow b z
          have h2 := (World.ownsRow.lt HI.out.row b hb).1
          omega) (fun b z => HGp.out.lw.lowY b z))
      have HI5 : Hid (FmIn (Ls ns1) [q]) := Lib.hid ⟨one_fmd HCu.out.1 (fun n hn => by have := HI.out.inn n ((HCu.out.2 n).1 hn); exact this.1), (fun r hr n hn => by rw [List.mem_singleton.1 hr] at hn; exact ls_mem.2 (HI.out.inn n ((HCu.out.2 n).1 hn))), by simp⟩
      have HX8 : Hid (∀ b, u8.ownBlock = some b → ¬ XB p F1 b) := Lib.hid (fun b e => (HI.out.x8 b e).2)
      have HD5 : Hid (many1 = false → ∀ a b c d, V a b c d → fP (trueAt ns1 a b (c + s) d) [q] = nums.all (trueAt ns1 a b (c + s) d)) := Lib.hid (fun _ a b c d _ => by
        unfold fP
        rw [List.any_cons, List.any_nil, Bool.or_false, Bool.eq_iff_iff, List.all_eq_true, List.all_eq_true]
        exact ⟨fun z n hn => z n ((HCu.out.2 n).2 hn), fun z n hn => z n ((HCu.out.2 n).1 hn)⟩)
      have HNm : Hid (∀ n ∈ nums, isIn ns1 n) := Lib.hid HI.out.inn
      have hos : os.length ≤ 20000 := by have := HI.out.few; omega
      have HFin : Hid (∀ k (h : k < fs.length), FmIn (Ls ns1) fs[k]) := Lib.hid (fun k hk => (HI.out.oth.keep k hk (by rw [← HI.out.oth.fl]; exact hk)).2)
      obtain ⟨A8, c8, hu8⟩ := own_slice HI.out.oth.own
      subst hu8
      clear hi4 hA4 hg4 hlw4 ho4 hF4 hFp hba HI HIn HCo
      obtain ⟨w5, hw5⟩ : ∃ w5, w5 = w4.alloc (.cells #[.slice A4 q.length c4] 80) := ⟨_, rfl⟩
      rw [← hw5] at HG5 HF5 HK5
      have HW5 := Lib.hid hw5
      clear hw5
      go_wp2_with fail
      rw [← HW5.out]
      go_loopw [12, 56] (fun u v wr => ∃ (j : Nat) (f : Fm) (ns2 : List Nd) (F2 : Nat → Prop) (many2 : Bool), j ≤ os.length ∧ v = .int .i64 j ∧ Hid (Grow p w ns F many wr ns2 F2 many2) ∧ Hid (Keeps (XY p F2) wr u f) ∧ Hid (FmIn (Ls ns2) f) ∧ Hid (FRow (XY p F2) ns2 wr w.heap.size (.slice A8 os.length c8) os fs) ∧ Hid (∀ b, (Value.slice A8 os.length c8).ownBlock = some b → ¬ XB p F2 b) ∧ Hid (∃ m, ns2 = ns1 ++ m) ∧ Hid (many2 = false → many1 = false ∧ ∀ a b c d, V a b c d → fP (trueAt ns2 a b (c + s) d) f = (nums.all (trueAt ns2 a b (c + s) d) && (fs.take j).all (fun g => fP (trueAt ns2 a b (c + s) d) g)))) (fun _ v _ => os.length - (intOf v).toNat)
      case atStart => exact ⟨0, [q], ns1, F1, many1, Nat.zero_le _, rfl, HG5, HK5, HI5, HF5, HX8, Lib.hid ⟨[], (List.append_nil _).symm⟩, Lib.hid (fun hm => ⟨hm, fun a b c d hv => by rw [HD5.out hm a b c d hv, List.take_zero, List.all_nil, Bool.and_true]⟩)⟩
      case round =>
        clear HG5 HK5 HI5 HF5 HX8 HD5 HW5
        obtain ⟨j, f, ns2, F2, many2, hj, rfl, HGr, HKr, HIr, HFr, HXr, HMo, HDr⟩ := hrel
        obtain ⟨A7, c7, hu⟩ := HKr.out.at
        subst hu
        by_cases hjl : j < os.length
        · have h1 : (0 : Int) ≤ (j : Int) := by omega
          have h2 : (j : Int) < (os.length : Int) := by omega
          have hjf : j < fs.length := by rw [HFr.out.fl]; exact hjl
          obtain ⟨hkj, hij⟩ := HFr.out.keep j hjf hjl
          obtain ⟨g, hA8⟩ : ∃ g, A8 = some ⟨g, 0, none⟩ := by
            rcases HFr.out.own.2 with ⟨e, _⟩ | ⟨g, cap, cur, e, _⟩
            · injection e with _ e _; omega
            · injection e with e _ _; exact ⟨g, e⟩
          subst hA8
          have q0 := World.ownsRow.cellAt HFr.out.own j (by omega)
          rw [List.getElem?_eq_getElem hjl] at q0
          obtain ⟨B, d, hB⟩ := hkj.at
          obtain ⟨fj, hfj⟩ : ∃ fj, fs[j] = fj := ⟨_, rfl⟩
          rw [hfj] at hkj hij hB
          rw [hB] at q0 hkj
          have HFj := Lib.hid hfj
          have HE := Lib.hid (lBoth HGr.out.lw HKr.out hkj HIr.out hij)
          clear hB hfj
          go_wp2_with fail
          refine HE.out.mono ?_
          rintro e w6 ⟨v6, g6, ns6, F6, many6, rfl, hg6, hk6, hi6, hd6⟩
          obtain ⟨A6, c6, hv6⟩ := hk6.at
          subst hv6
          have HG6 := Lib.hid hg6
          have HK6 := Lib.hid hk6
          have HI6 := Lib.hid hi6
          have HD6 := Lib.hid hd6
          clear hg6 hk6 hi6 hd6
          go_wp2_with fail
          have hg6 := HG6.out
          have hk6 := HK6.out
          have hi6 := HI6.out
          have hd6 := HD6.out
          refine ⟨⟨j + 1, g6, ns6, F6, many6, by omega, by go_num, Lib.hid (HGr.out.trans hg6), Lib.hid hk6, Lib.hid hi6, Lib.hid (HFr.out.grow hg6 HXr.out), Lib.hid (fun b e z => by
            rcases hg6.xlow b z with z | z
            · exact HXr.out b e z
            · have := (World.ownsRow.lt HFr.out.own b e).2; omega), Lib.hid (by obtain ⟨m, hm⟩ := HMo.out; obtain ⟨m2, hm2⟩ := hg6.more; exact ⟨m ++ m2, by rw [hm2, hm, List.append_assoc]⟩), Lib.hid (fun hm => ?_)⟩, by simp [intOf]; omega⟩
          have hm2 : many2 = false := by cases many2 with | false => rfl | true => have := hg6.mono rfl; rw [hm] at this; cases this
          obtain ⟨hm1, hd2⟩ := HDr.out hm2
          obtain ⟨m, hmore⟩ := hg6.more
          obtain ⟨m0, hmo⟩ := HMo.out
          refine ⟨hm1, fun a b c d hv => ?_⟩
          rw [hd6 hm, take_allF hjf, HFj.out]
          have e1 : fP (trueAt ns6 a b (c + s) d) f = fP (trueAt ns2 a b (c + s) d) f := by rw [hmore]; exact fP_up HIr.out.inF m (c + s) d
          have e2 : nums.all (trueAt ns6 a b (c + s) d) = nums.all (trueAt ns2 a b (c + s) d) := by
            rw [hmore]
            exact all_agree (fun n hn => by unfold trueAt; rw [nodeT_up a b m (by rw [hmo]; exact (HNm.out n hn).up m0)])
          have e3 : (fs.take j).all (fun g => fP (trueAt ns6 a b (c + s) d) g) = (fs.take j).all (fun g => fP (trueAt ns2 a b (c + s) d) g) := by
            rw [hmore, Bool.eq_iff_iff, List.all_eq_true, List.all_eq_true]
            have hh : ∀ g ∈ fs.take j, fP (trueAt (ns2 ++ m) a b (c + s) d) g = fP (trueAt ns2 a b (c + s) d) g := fun g hg => fP_up (HFr.out.inF g (List.mem_of_mem_take hg)) m (c + s) d
            exact ⟨fun z g hg => by rw [← hh g hg]; exact z g hg, fun z g hg => by rw [hh g hg]; exact z g hg⟩
          rw [e1, e2, e3, hd2 a b c d hv, Bool.and_assoc]
        · obtain rfl : j = os.length := by omega
          go_wp2_with fail
          go_ret
          refine LAns.done HGr.out HKr.out HIr.out (fun hm a b c d hv => ?_)
          obtain ⟨hm1, hd2⟩ := HDr.out hm
          obtain ⟨m0, hmo⟩ := HMo.out
          have := hd2 a b c d hv
          rw [List.take_of_length_le (by rw [HFr.out.fl]; exact Nat.le_refl _)] at this
          show fP (trueAt ns2 a b (c + s) d) f = _
          rw [this]
          show saidBy nums fs (trueAt ns2 a b (c + s) d) = l.all (fun x => val x a b c d)
          rw [HSd.out hm1 a b c d hv, hmo]
          exact said_up HNm.out (fun f hf => by
            obtain ⟨k, hk, rfl⟩ := List.mem_iff_getElem.1 hf
            exact (HFin.out k hk).inF) m0 a b (c + s) d

set_option maxRecDepth 100000 in
set_option maxHeartbeats 16000000 in
theorem lAndOpposite {l : List Int} {v : Value} (h : LW p w ns F many) (hl : KeepsL (XY p F) w v l) (hl2 : l.length ≤ 20000) {V : List Nat → List Nat → Nat → Nat → Prop} {s : Nat} {val : Int → List Nat → List Nat → Nat → Nat → Bool}
    (hof : OfIs p w ns F many 114 (fun x => #[.pointer (some ⟨p.gw, 0, none⟩), .int .i64 x]) l V s val) :
    Calls Tryz.prog 76 #[.pointer (some ⟨p.gw, 0, none⟩), v, .func (.func 114) #[.pointer (some ⟨p.gw, 0, none⟩)] #[]] w (LAns p w ns F many fun ms f => Den V s (fun a b c d => l.all (fun x => val x a b c d)) ms f) := by
  obtain ⟨A, c, rfl, hlc, hc63, _⟩ := hl.here
  have HW := Lib.hid h
  have HL := Lib.hid hl
  have HOf := Lib.hid hof
  have hl63 : l.length ≤ 9223372036854775807 := by omega
  obtain ⟨i0, hi0, hi1, hi2, hi3⟩ := info_parts info_int1
  obtain ⟨j0, hj0, hj1, hj2, hj3⟩ := info_parts info_fm
  clear h hl hof hlc hc63
  go_enter Tryz.func76, Tryz.ntmps76
  go_wp2_with fail
  go_loopw [7, 8, 17] (fun u7 u8 v wr => ∃ (i : Nat) (nums : List Int) (os : List Value) (fs : List Fm) (y1 : Nat → Prop) (ns1 : List Nd) (F1 : Nat → Prop) (many1 : Bool), i ≤ l.length ∧ v = .int .i64 i ∧ Hid (∀ b, p.y b → y1 b) ∧ Hid (Grow { p with y := y1 } w ns F many wr ns1 F1 many1) ∧ Hid (AndI { p with y := y1 } w wr ns1 F1 u7 u8 i nums os fs) ∧ Hid (many1 = false → SaidTo V s val (l.take i) ns1 nums fs)) (fun _ _ v _ => l.length - (intOf v).toNat)
  case atStart => exact ⟨0, [], [], [], p.y, ns, F, many, Nat.zero_le _, rfl, Lib.hid (fun b q => q), Lib.hid (Grow.refl HW.out), Lib.hid ⟨World.ownsRow_nil _ _ _ _, ⟨World.ownsRow_nil _ _ _ _, rfl, fun k a _ => absurd a (Nat.not_lt_zero _)⟩, (fun n hn => by cases hn), Nat.zero_le _, Nat.zero_le _, (fun b e => by cases e), (fun b e => by cases e), (fun b e => by cases e)⟩, Lib.hid (fun _ a b c d _ => rfl)⟩
  case round =>
    obtain ⟨i, nums, os, fs, y1, ns1, F1, many1, hi, rfl, HY, HG, HI, HS⟩ := hrel
    by_cases hlt : i < l.length
    · have h1 : (0 : Int) ≤ (i : Int) := by omega
      have h2 : (i : Int) < (l.length : Int) := by omega
      obtain ⟨b, off, rfl, hbl, q0⟩ := (HL.out wr (OffF.xy (p := p) HG.out.off)).at i hlt
      obtain ⟨x, hx⟩ : ∃ x, inAt l i = x := ⟨_, rfl⟩
      rw [hx] at q0
      have hxe : l[i] = x := by rw [← hx, inAt_lt hlt]
      have HX : Hid (l[i] = x) := Lib.hid hxe
      have HXm : Hid (x ∈ l) := Lib.hid (by rw [← hxe]; exact List.getElem_mem hlt)
      have HC := Lib.hid (HOf.out y1 wr ns1 F1 many1 x HXm.out HG.out)
      clear hx hxe hbl
      go_wp2_with fail
      refine HC.out.mono ?_
      rintro e w3 ⟨v3, f, ns3, F3, many3, rfl, hg3, hk3, hi3, hd3⟩
      have HG3 := Lib.hid (HG.out.trans hg3)
      have HG13 := Lib.hid hg3
      have HI3 := Lib.hid (HI.out.grow hg3)
      have HFi := Lib.hid hi3
      have HD3 := Lib.hid hd3
      have HK3 := Lib.hid hk3
      obtain ⟨A3, c3, hv3⟩ := hk3.at
      subst hv3
      have c7 := hg3.lw.cells.2.2.2.2.2.2.2
      have hfw := hi3.few
      clear hg3 hi3 hd3 hk3 q0 HC
      cases many3
      rotate_left
      · clear c7
        have c7 : w3.cell? ⟨p.gw, 7, none⟩ = some (.bool true) := HG3.out.lw.cells.2.2.2.2.2.2.2
        go_wp2_with fail
        refine (lFalse w3).mono ?_
        rintro e w4 ⟨A4, c4, rfl, hf4, hb4⟩
        have HEnd := Lib.hid ((HG3.out.lessY HY.out).next hb4)
        have HKe := Lib.hid (FmFrom.keeps (HG3.out.lw.lessY HY.out) hf4)
        clear hf4 hb4
        go_wp2_with fail
        go_ret
        exact LAns.done HEnd.out HKe.out (FmIn.nil _) (fun q => by cases q)
      have c7' : w3.cell? ⟨p.gw, 7, none⟩ = some (.bool false) := c7
      clear c7
      have HM1 : Hid (many1 = false) := Lib.hid (by cases many1 with | false => rfl | true => have := HG13.out.mono rfl; cases this)
      have HSd : Hid (∀ a b c d, V a b c d → (l.take (i + 1)).all (fun x => val x a b c d) = (saidBy nums fs (trueAt ns3 a b (c + s) d) && fP (trueAt ns3 a b (c + s) d) f)) := Lib.hid (fun a b c d hv => by
        rw [take_all hlt, HX.out, HS.out HM1.out a b c d hv]
        obtain ⟨m, hm⟩ := HG13.out.more
        congr 1
        · rw [hm, said_up HI.out.inn HI.out.oth.inF]
        · exact (HD3.out rfl a b c d hv).symm)
      by_cases hf0 : f.length = 0
      · have hf : f = [] := List.eq_nil_of_length_eq_zero hf0
        subst hf
        have hz : ((([] : Fm).length : Int) == 0) = true := rfl
        have hz2 : (([] : Fm).length : Int) = 0 := rfl
        clear hf0
        go_wp2_with fail
        refine (lFalse w3).mono ?_
        rintro e w4 ⟨A4, c4, rfl, hf4, hb4⟩
        have HEnd := Lib.hid ((HG3.out.lessY HY.out).next hb4)
        have HKe := Lib.hid (FmFrom.keeps (HG3.out.lw.lessY HY.out) hf4)
        clear hf4 hb4
        go_wp2_with fail
        go_ret
        refine LAns.done HEnd.out HKe.out (FmIn.nil _) (fun _ a b c d hv => ?_)
        have := HSd.out a b c d hv
        rw [show fP (trueAt ns3 a b (c + s) d) [] = false from rfl, Bool.and_false] at this
        rw [fP_false]
        refine (Bool.eq_false_iff.2 (fun q => ?_)).symm
        have h5 : (l.take (i + 1)).all (fun x => val x a b c d) = true := List.all_eq_true.2 (fun y hy => List.all_eq_true.1 q y (List.mem_of_mem_take hy))
        rw [this] at h5; cases h5
      have hz : ((f.length : Int) == 0) = false := (int_ne (by omega)).1
      by_cases hf1 : f.length = 1
      · obtain ⟨q, hq⟩ : ∃ q, f = [q] := by
          match f, hf1 with
          | [q], _ => exact ⟨q, rfl⟩
        subst hq
        obtain ⟨b3, off3, A5, c5, hA3, hb3, q3, hp3⟩ := HK3.out.here.at 0 (by simp)
        subst hA3
        rw [Nat.add_zero] at q3
        have q3' : w3.cell? ⟨b3, off3, none⟩ = some (.slice A5 q.length c5) := q3
        have hp3' : IntsAt w3 (.slice A5 q.length c5) q := hp3
        have e1 : ([q] : Fm).length = 1 := rfl
        have HQl : Hid (q.length ≤ 20000) := Lib.hid (by
          have := HFi.out.part (ls_up ns3) (show q ∈ [q] by simp)
          rw [ls_len] at this
          have := HG3.out.lw.few
          omega)
        obtain ⟨v6, w6, hr6, o1, o2, o3⟩ := append_src (T := 80) (E := 3) Tryz.underlying80 hi0 hi1 hi2 hi3 rfl (by decide) (by decide) w3 w.heap.size u7 nums.length _ _ q.length _ 80 HI3.out.row HG3.out.size hp3'.src (by have := HI3.out.len; have := HQl.out; have : i * 20000 ≤ 20000 * 20000 := Nat.mul_le_mul_right _ (by omega); omega)
        obtain ⟨y2, y2a, y2b, hlw2, ho2, ha2⟩ := HI3.out.push HG3.out.lw HFi.out o1 o2 o3
        have HG6 := Lib.hid (HG3.out.push (y' := y2) hlw2 o2 (fun b e => (World.ownsRow.lt HI3.out.row b e).1))
        have HA6 := Lib.hid ha2
        have HY6 : Hid (∀ b, p.y b → y2 b) := Lib.hid (fun b z => y2a b (HY.out b z))
        have HR6 := Lib.hid hr6
        rw [e1] at hz hf0 hfw ⊢
        clear q3 hp3 hp3' hr6 o1 o2 o3 y2a y2b hlw2 ho2 ha2 hf1 hb3
        go_wp2_with (first | (at_builtin; refine Lib.wpList_append_run _ rfl _ _ _ _ rfl _ _ rfl rfl v6 w6 HR6.out ?_) | fail)
        refine ⟨⟨i + 1, nums ++ q, os, fs, y2, ns3, F3, false, by omega, by go_num, HY6, HG6, HA6, Lib.hid (fun _ a b c d hv => ?_)⟩, by simp [intOf]; omega⟩
        rw [HSd.out a b c d hv]
        unfold saidBy fP
        rw [List.all_append, List.any_cons, List.any_nil, Bool.or_false]
        cases nums.all (trueAt ns3 a b (c + s) d) <;> cases q.all (trueAt ns3 a b (c + s) d) <;> cases fs.all (fun f => List.any f fun p => p.all (trueAt ns3 a b (c + s) d)) <;> rfl
      · have hz1 : ((f.length : Int) == 1) = false := (int_ne (by omega)).1
        have hal : Below w3.heap.size w3 (w3.alloc (.cells #[.slice A3 f.length c3] 29)) := (Below.refl _ _).alloc (Nat.le_refl _) _
        have hga := Grow.of HG3.out.lw hal
        have HI4 := HI3.out.grow hga
        have HK4 := HK3.out.grow hga
        obtain ⟨v6, w6, hr6, o1, o2, o3⟩ := append_src (T := 147) (E := 29) Tryz.underlying147 hj0 hj1 hj2 hj3 rfl (by decide) (by decide) _ w.heap.size u8 os.length os _ 1 _ 147 HI4.oth.own (Nat.le_trans HG3.out.size hal.size) (one_src w3 A3 f.length c3) (by have := HI4.few; omega)
        obtain ⟨y2, y2a, y2b, hlw2, ho2, ha2⟩ := HI4.pushF hga.lw HK4 HFi.out o1 o2 o3
        have HG6 := Lib.hid ((HG3.out.trans hga).push (y' := y2) hlw2 o2 (fun b e => (World.ownsRow.lt HI4.oth.own b e).1))
        have HA6 := Lib.hid ha2
        have HY6 : Hid (∀ b, p.y b → y2 b) := Lib.hid (fun b z => y2a b (HY.out b z))
        have HR6 := Lib.hid hr6
        clear hr6 o1 o2 o3 y2a y2b hlw2 ho2 ha2 hf1 hal hga HI4 HK4
        go_wp2_with (first | (at_builtin; refine Lib.wpList_append_run _ rfl _ _ _ _ rfl _ _ rfl rfl v6 w6 HR6.out ?_) | fail)
        refine ⟨⟨i + 1, nums, os ++ [.slice A3 f.length c3], fs ++ [f], y2, ns3, F3, false, by omega, by go_num, HY6, HG6, HA6, Lib.hid (fun _ a b c d hv => ?_)⟩, by simp [intOf]; omega⟩
        rw [HSd.out a b c d hv]
        unfold saidBy
        rw [List.all_append, List.all_cons, List.all_nil, Bool.and_true, Bool.and_assoc]
    · obtain rfl : i = l.length := by omega
      have HSd : Hid (many1 = false → SaidTo V s val l ns1 nums fs) := Lib.hid (fun hm => by have := HS.out hm; rw [List.take_length] at this; exact this)
      have hnl : nums.length ≤ 1000000000 := by have := HI.out.len; have : l.length * 20000 ≤ 20000 * 20000 := Nat.mul_le_mul_right _ hl2; omega
      have HNi : Hid (∀ n ∈ nums, IsI n) := Lib.hid (fun n hn => by have := HI.out.inn n hn; have := HG.out.lw.few; unfold isIn at *; unfold IsI; omega)
      go_wp2_with fail
      refine (fSort HI.out.row hnl).mono ?_
      rintro e w2 ⟨rfl, hs, hgs⟩
      have hlw2 := HG.out.lw.turnY hgs (fun b e => HI.out.x7 b e)
      have ho2 : OffF (XY { p with y := y1 } F1) wr w2 := ⟨hgs.os, hgs.tape, hgs.output, hgs.size, fun b hb hn => hgs.block b hb (fun e => hn (Or.inr (HI.out.x7 b e.symm).1))⟩
      have HG2 := Lib.hid (HG.out.push (y' := y1) hlw2 hgs (fun b e => (World.ownsRow.lt HI.out.row b e).1))
      have HF2 : Hid (FRow (XY { p with y := y1 } F1) ns1 w2 w.heap.size u8 os fs) := Lib.hid ⟨own_grown HI.out.oth.own hgs (fun b e z => HI.out.ap b z e), HI.out.oth.fl, fun k a b => ⟨(HI.out.oth.keep k a b).1.step ho2 (fun b z => Or.inl z), (HI.out.oth.keep k a b).2⟩⟩
      have HIn := Lib.hid hs
      have hsl : (nums.mergeSort fun x y => decide (x ≤ y)).length = nums.length := List.length_mergeSort _
      have HCo := Lib.hid (fCompact2 hs (fun x hx => HNi.out x (List.mem_mergeSort.1 hx)) (by rw [hsl]; exact hnl))
      have hcu := compact_up (sort_le nums)
      obtain ⟨q, hq⟩ : ∃ q, Lib.compact (nums.mergeSort fun x y => decide (x ≤ y)) = q := ⟨_, rfl⟩
      rw [hq] at HCo hcu
      have HCu : Hid (Up q ∧ ∀ n, n ∈ q ↔ n ∈ nums) := Lib.hid ⟨hcu.1, fun n => (hcu.2 n).trans (sort_mem nums n)⟩
      clear hs hgs hlw2 ho2 hsl hcu hq
      go_wp2_with fail
      refine HCo.out.mono ?_
      rintro e w4 ⟨A4, c4, rfl, hi4, hA4, hg4⟩
      have hlw4 := HG2.out.lw.turnY hg4 (fun b e => HI.out.x7 b e)
      have ho4 : OffF (XY { p with y := y1 } F1) w2 w4 := ⟨hg4.os, hg4.tape, hg4.output, hg4.size, fun b hb hn => hg4.block b hb (fun e => hn (Or.inr (HI.out.x7 b e.symm).1))⟩
      have HG4 := Lib.hid (HG2.out.push (y' := y1) hlw4 hg4 (fun b e => (World.ownsRow.lt HI.out.row b e).1))
      have hF4 : FRow (XY { p with y := y1 } F1) ns1 w4 w.heap.size u8 os fs := ⟨own_grown HF2.out.own hg4 (fun b e z => HI.out.ap b z e), HF2.out.fl, fun k a b => ⟨(HF2.out.keep k a b).1.step ho4 (fun b z => Or.inl z), (HF2.out.keep k a b).2⟩⟩
      have HGp := Lib.hid (HG4.out.lessY HY.out)
      have hFp : FRow (XY p F1) ns1 w4 w.heap.size u8 os fs := ⟨hF4.own, hF4.fl, fun k a b => ⟨(hF4.keep k a b).1.less (fun b z => z.imp id (HY.out b)), (hF4.keep k a b).2⟩⟩
      have hba : Below w4.heap.size w4 (w4.alloc (.cells #[.slice A4 q.length c4] 80)) := (Below.refl _ _).alloc (Nat.le_refl _) _
      have HG5 := Lib.hid (HGp.out.next hba)
      have HF5 := Lib.hid (hFp.grow (Grow.of HGp.out.lw hba) (fun b e => (HI.out.x8 b e).2))
      have HK5 := Lib.hid (keeps_prod (p := p) (ns1 := ns1) (F1 := F1) hi4 (fun b off s e z => by
        have hb := hA4 b off s e
        rcases z with z | z
        · exact (HI.out.x7 b hb).2 z
        · have h1 := HW.out.ylow b z
          have h2 := (World.ownsRow.lt HI.out.row b hb).1
          omega) (fun b z => HGp.out.lw.lowY b z))
      have HI5 : Hid (FmIn (Ls ns1) [q]) := Lib.hid ⟨one_fmd HCu.out.1 (fun n hn => by have := HI.out.inn n ((HCu.out.2 n).1 hn); exact this.1), (fun r hr n hn => by rw [List.mem_singleton.1 hr] at hn; exact ls_mem.2 (HI.out.inn n ((HCu.out.2 n).1 hn))), by simp⟩
      have HX8 : Hid (∀ b, u8.ownBlock = some b → ¬ XB p F1 b) := Lib.hid (fun b e => (HI.out.x8 b e).2)
      have HD5 : Hid (many1 = false → ∀ a b c d, V a b c d → fP (trueAt ns1 a b (c + s) d) [q] = nums.all (trueAt ns1 a b (c + s) d)) := Lib.hid (fun _ a b c d _ => by
        unfold fP
        rw [List.any_cons, List.any_nil, Bool.or_false, Bool.eq_iff_iff, List.all_eq_true, List.all_eq_true]
        exact ⟨fun z n hn => z n ((HCu.out.2 n).2 hn), fun z n hn => z n ((HCu.out.2 n).1 hn)⟩)
      have HNm : Hid (∀ n ∈ nums, isIn ns1 n) := Lib.hid HI.out.inn
      have hos : os.length ≤ 20000 := by have := HI.out.few; omega
      have HFin : Hid (∀ k (h : k < fs.length), FmIn (Ls ns1) fs[k]) := Lib.hid (fun k hk => (HI.out.oth.keep k hk (by rw [← HI.out.oth.fl]; exact hk)).2)
      obtain ⟨A8, c8, hu8⟩ := own_slice HI.out.oth.own
      subst hu8
      clear hi4 hA4 hg4 hlw4 ho4 hF4 hFp hba HI HIn HCo
      obtain ⟨w5, hw5⟩ : ∃ w5, w5 = w4.alloc (.cells #[.slice A4 q.length c4] 80) := ⟨_, rfl⟩
      rw [← hw5] at HG5 HF5 HK5
      have HW5 := Lib.hid hw5
      clear hw5
      go_wp2_with fail
      rw [← HW5.out]
      go_loopw [12, 56] (fun u v wr => ∃ (j : Nat) (f : Fm) (ns2 : List Nd) (F2 : Nat → Prop) (many2 : Bool), j ≤ os.length ∧ v = .int .i64 j ∧ Hid (Grow p w ns F many wr ns2 F2 many2) ∧ Hid (Keeps (XY p F2) wr u f) ∧ Hid (FmIn (Ls ns2) f) ∧ Hid (FRow (XY p F2) ns2 wr w.heap.size (.slice A8 os.length c8) os fs) ∧ Hid (∀ b, (Value.slice A8 os.length c8).ownBlock = some b → ¬ XB p F2 b) ∧ Hid (∃ m, ns2 = ns1 ++ m) ∧ Hid (many2 = false → many1 = false ∧ ∀ a b c d, V a b c d → fP (trueAt ns2 a b (c + s) d) f = (nums.all (trueAt ns2 a b (c + s) d) && (fs.take j).all (fun g => fP (trueAt ns2 a b (c + s) d) g)))) (fun _ v _ => os.length - (intOf v).toNat)
      case atStart => exact ⟨0, [q], ns1, F1, many1, Nat.zero_le _, rfl, HG5, HK5, HI5, HF5, HX8, Lib.hid ⟨[], (List.append_nil _).symm⟩, Lib.hid (fun hm => ⟨hm, fun a b c d hv => by rw [HD5.out hm a b c d hv, List.take_zero, List.all_nil, Bool.and_true]⟩)⟩
      case round =>
        clear HG5 HK5 HI5 HF5 HX8 HD5 HW5
        obtain ⟨j, f, ns2, F2, many2, hj, rfl, HGr, HKr, HIr, HFr, HXr, HMo, HDr⟩ := hrel
        obtain ⟨A7, c7, hu⟩ := HKr.out.at
        subst hu
        by_cases hjl : j < os.length
        · have h1 : (0 : Int) ≤ (j : Int) := by omega
          have h2 : (j : Int) < (os.length : Int) := by omega
          have hjf : j < fs.length := by rw [HFr.out.fl]; exact hjl
          obtain ⟨hkj, hij⟩ := HFr.out.keep j hjf hjl
          obtain ⟨g, hA8⟩ : ∃ g, A8 = some ⟨g, 0, none⟩ := by
            rcases HFr.out.own.2 with ⟨e, _⟩ | ⟨g, cap, cur, e, _⟩
            · injection e with _ e _; omega
            · injection e with e _ _; exact ⟨g, e⟩
          subst hA8
          have q0 := World.ownsRow.cellAt HFr.out.own j (by omega)
          rw [List.getElem?_eq_getElem hjl] at q0
          obtain ⟨B, d, hB⟩ := hkj.at
          obtain ⟨fj, hfj⟩ : ∃ fj, fs[j] = fj := ⟨_, rfl⟩
          rw [hfj] at hkj hij hB
          rw [hB] at q0 hkj
          have HFj := Lib.hid hfj
          have HE := Lib.hid (lBoth HGr.out.lw HKr.out hkj HIr.out hij)
          clear hB hfj
          go_wp2_with fail
          refine HE.out.mono ?_
          rintro e w6 ⟨v6, g6, ns6, F6, many6, rfl, hg6, hk6, hi6, hd6⟩
          obtain ⟨A6, c6, hv6⟩ := hk6.at
          subst hv6
          have HG6 := Lib.hid hg6
          have HK6 := Lib.hid hk6
          have HI6 := Lib.hid hi6
          have HD6 := Lib.hid hd6
          clear hg6 hk6 hi6 hd6
          go_wp2_with fail
          have hg6 := HG6.out
          have hk6 := HK6.out
          have hi6 := HI6.out
          have hd6 := HD6.out
          refine ⟨⟨j + 1, g6, ns6, F6, many6, by omega, by go_num, Lib.hid (HGr.out.trans hg6), Lib.hid hk6, Lib.hid hi6, Lib.hid (HFr.out.grow hg6 HXr.out), Lib.hid (fun b e z => by
            rcases hg6.xlow b z with z | z
            · exact HXr.out b e z
            · have := (World.ownsRow.lt HFr.out.own b e).2; omega), Lib.hid (by obtain ⟨m, hm⟩ := HMo.out; obtain ⟨m2, hm2⟩ := hg6.more; exact ⟨m ++ m2, by rw [hm2, hm, List.append_assoc]⟩), Lib.hid (fun hm => ?_)⟩, by simp [intOf]; omega⟩
          have hm2 : many2 = false := by cases many2 with | false => rfl | true => have := hg6.mono rfl; rw [hm] at this; cases this
          obtain ⟨hm1, hd2⟩ := HDr.out hm2
          obtain ⟨m, hmore⟩ := hg6.more
          obtain ⟨m0, hmo⟩ := HMo.out
          refine ⟨hm1, fun a b c d hv => ?_⟩
          rw [hd6 hm, take_allF hjf, HFj.out]
          have e1 : fP (trueAt ns6 a b (c + s) d) f = fP (trueAt ns2 a b (c + s) d) f := by rw [hmore]; exact fP_up HIr.out.inF m (c + s) d
          have e2 : nums.all (trueAt ns6 a b (c + s) d) = nums.all (trueAt ns2 a b (c + s) d) := by
            rw [hmore]
            exact all_agree (fun n hn => by unfold trueAt; rw [nodeT_up a b m (by rw [hmo]; exact (HNm.out n hn).up m0)])
          have e3 : (fs.take j).all (fun g => fP (trueAt ns6 a b (c + s) d) g) = (fs.take j).all (fun g => fP (trueAt ns2 a b (c + s) d) g) := by
            rw [hmore, Bool.eq_iff_iff, List.all_eq_true, List.all_eq_true]
            have hh : ∀ g ∈ fs.take j, fP (trueAt (ns2 ++ m) a b (c + s) d) g = fP (trueAt ns2 a b (c + s) d) g := fun g hg => fP_up (HFr.out.inF g (List.mem_of_mem_take hg)) m (c + s) d
            exact ⟨fun z g hg => by rw [← hh g hg]; exact z g hg, fun z g hg => by rw [hh g hg]; exact z g hg⟩
          rw [e1, e2, e3, hd2 a b c d hv, Bool.and_assoc]
        · obtain rfl : j = os.length := by omega
          go_wp2_with fail
          go_ret
          refine LAns.done HGr.out HKr.out HIr.out (fun hm a b c d hv => ?_)
          obtain ⟨hm1, hd2⟩ := HDr.out hm
          obtain ⟨m0, hmo⟩ := HMo.out
          have := hd2 a b c d hv
          rw [List.take_of_length_le (by rw [HFr.out.fl]; exact Nat.le_refl _)] at this
          show fP (trueAt ns2 a b (c + s) d) f = _
          rw [this]
          show saidBy nums fs (trueAt ns2 a b (c + s) d) = l.all (fun x => val x a b c d)
          rw [HSd.out hm1 a b c d hv, hmo]
          exact said_up HNm.out (fun f hf => by
            obtain ⟨k, hk, rfl⟩ := List.mem_iff_getElem.1 hf
            exact (HFin.out k hk).inF) m0 a b (c + s) d

set_option maxRecDepth 100000 in
set_option maxHeartbeats 16000000 in
theorem lAndLeft {l : List Int} {v : Value} (h : LW p w ns F many) (hl : KeepsL (XY p F) w v l) (hl2 : l.length ≤ 20000) {V : List Nat → List Nat → Nat → Nat → Prop} {s : Nat} {val : Int → List Nat → List Nat → Nat → Nat → Bool}
    (hof : OfIs p w ns F many 44 (fun x => #[.pointer (some ⟨p.gw, 0, none⟩), .int .i64 x]) l V s val) :
    Calls Tryz.prog 76 #[.pointer (some ⟨p.gw, 0, none⟩), v, .func (.func 44) #[.pointer (some ⟨p.gw, 0, none⟩)] #[]] w (LAns p w ns F many fun ms f => Den V s (fun a b c d => l.all (fun x => val x a b c d)) ms f) := by
  obtain ⟨A, c, rfl, hlc, hc63, _⟩ := hl.here
  have HW := Lib.hid h
  have HL := Lib.hid hl
  have HOf := Lib.hid hof
  have hl63 : l.length ≤ 9223372036854775807 := by omega
  obtain ⟨i0, hi0, hi1, hi2, hi3⟩ := info_parts info_int1
  obtain ⟨j0, hj0, hj1, hj2, hj3⟩ := info_parts info_fm
  clear h hl hof hlc hc63
  go_enter Tryz.func76, Tryz.ntmps76
  go_wp2_with fail
  go_loopw [7, 8, 17] (fun u7 u8 v wr => ∃ (i : Nat) (nums : List Int) (os : List Value) (fs : List Fm) (y1 : Nat → Prop) (ns1 : List Nd) (F1 : Nat → Prop) (many1 : Bool), i ≤ l.length ∧ v = .int .i64 i ∧ Hid (∀ b, p.y b → y1 b) ∧ Hid (Grow { p with y := y1 } w ns F many wr ns1 F1 many1) ∧ Hid (AndI { p with y := y1 } w wr ns1 F1 u7 u8 i nums os fs) ∧ Hid (many1 = false → SaidTo V s val (l.take i) ns1 nums fs)) (fun _ _ v _ => l.length - (intOf v).toNat)
  case atStart => exact ⟨0, [], [], [], p.y, ns, F, many, Nat.zero_le _, rfl, Lib.hid (fun b q => q), Lib.hid (Grow.refl HW.out), Lib.hid ⟨World.ownsRow_nil _ _ _ _, ⟨World.ownsRow_nil _ _ _ _, rfl, fun k a _ => absurd a (Nat.not_lt_zero _)⟩, (fun n hn => by cases hn), Nat.zero_le _, Nat.zero_le _, (fun b e => by cases e), (fun b e => by cases e), (fun b e => by cases e)⟩, Lib.hid (fun _ a b c d _ => rfl)⟩
  case round =>
    obtain ⟨i, nums, os, fs, y1, ns1, F1, many1, hi, rfl, HY, HG, HI, HS⟩ := hrel
    by_cases hlt : i < l.length
    · have h1 : (0 : Int) ≤ (i : Int) := by omega
      have h2 : (i : Int) < (l.length : Int) := by omega
      obtain ⟨b, off, rfl, hbl, q0⟩ := (HL.out wr (OffF.xy (p := p) HG.out.off)).at i hlt
      obtain ⟨x, hx⟩ : ∃ x, inAt l i = x := ⟨_, rfl⟩
      rw [hx] at q0
      have hxe : l[i] = x := by rw [← hx, inAt_lt hlt]
      have HX : Hid (l[i] = x) := Lib.hid hxe
      have HXm : Hid (x ∈ l) := Lib.hid (by rw [← hxe]; exact List.getElem_mem hlt)
      have HC := Lib.hid (HOf.out y1 wr ns1 F1 many1 x HXm.out HG.out)
      clear hx hxe hbl
      go_wp2_with fail
      refine HC.out.mono ?_
      rintro e w3 ⟨v3, f, ns3, F3, many3, rfl, hg3, hk3, hi3, hd3⟩
      have HG3 := Lib.hid (HG.out.trans hg3)
      have HG13 := Lib.hid hg3
      have HI3 := Lib.hid (HI.out.grow hg3)
      have HFi := Lib.hid hi3
      have HD3 := Lib.hid hd3
      have HK3 := Lib.hid hk3
      obtain ⟨A3, c3, hv3⟩ := hk3.at
      subst hv3
      have c7 := hg3.lw.cells.2.2.2.2.2.2.2
      have hfw := hi3.few
      clear hg3 hi3 hd3 hk3 q0 HC
      cases many3
      rotate_left
      · clear c7
        have c7 : w3.cell? ⟨p.gw, 7, none⟩ = some (.bool true) := HG3.out.lw.cells.2.2.2.2.2.2.2
        go_wp2_with fail
        refine (lFalse w3).mono ?_
        rintro e w4 ⟨A4, c4, rfl, hf4, hb4⟩
        have HEnd := Lib.hid ((HG3.out.lessY HY.out).next hb4)
        have HKe := Lib.hid (FmFrom.keeps (HG3.out.lw.lessY HY.out) hf4)
        clear hf4 hb4
        go_wp2_with fail
        go_ret
        exact LAns.done HEnd.out HKe.out (FmIn.nil _) (fun q => by cases q)
      have c7' : w3.cell? ⟨p.gw, 7, none⟩ = some (.bool false) := c7
      clear c7
      have HM1 : Hid (many1 = false) := Lib.hid (by cases many1 with | false => rfl | true => have := HG13.out.mono rfl; cases this)
      have HSd : Hid (∀ a b c d, V a b c d → (l.take (i + 1)).all (fun x => val x a b c d) = (saidBy nums fs (trueAt ns3 a b (c + s) d) && fP (trueAt ns3 a b (c + s) d) f)) := Lib.hid (fun a b c d hv => by
        rw [take_all hlt, HX.out, HS.out HM1.out a b c d hv]
        obtain ⟨m, hm⟩ := HG13.out.more
        congr 1
        · rw [hm, said_up HI.out.inn HI.out.oth.inF]
        · exact (HD3.out rfl a b c d hv).symm)
      by_cases hf0 : f.length = 0
      · have hf : f = [] := List.eq_nil_of_length_eq_zero hf0
        subst hf
        have hz : ((([] : Fm).length : Int) == 0) = true := rfl
        have hz2 : (([] : Fm).length : Int) = 0 := rfl
        clear hf0
        go_wp2_with fail
        refine (lFalse w3).mono ?_
        rintro e w4 ⟨A4, c4, rfl, hf4, hb4⟩
        have HEnd := Lib.hid ((HG3.out.lessY HY.out).next hb4)
        have HKe := Lib.hid (FmFrom.keeps (HG3.out.lw.lessY HY.out) hf4)
        clear hf4 hb4
        go_wp2_with fail
        go_ret
        refine LAns.done HEnd.out HKe.out (FmIn.nil _) (fun _ a b c d hv => ?_)
        have := HSd.out a b c d hv
        rw [show fP (trueAt ns3 a b (c + s) d) [] = false from rfl, Bool.and_false] at this
        rw [fP_false]
        refine (Bool.eq_false_iff.2 (fun q => ?_)).symm
        have h5 : (l.take (i + 1)).all (fun x => val x a b c d) = true := List.all_eq_true.2 (fun y hy => List.all_eq_true.1 q y (List.mem_of_mem_take hy))
        rw [this] at h5; cases h5
      have hz : ((f.length : Int) == 0) = false := (int_ne (by omega)).1
      by_cases hf1 : f.length = 1
      · obtain ⟨q, hq⟩ : ∃ q, f = [q] := by
          match f, hf1 with
          | [q], _ => exact ⟨q, rfl⟩
        subst hq
        obtain ⟨b3, off3, A5, c5, hA3, hb3, q3, hp3⟩ := HK3.out.here.at 0 (by simp)
        subst hA3
        rw [Nat.add_zero] at q3
        have q3' : w3.cell? ⟨b3, off3, none⟩ = some (.slice A5 q.length c5) := q3
        have hp3' : IntsAt w3 (.slice A5 q.length c5) q := hp3
        have e1 : ([q] : Fm).length = 1 := rfl
        have HQl : Hid (q.length ≤ 20000) := Lib.hid (by
          have := HFi.out.part (ls_up ns3) (show q ∈ [q] by simp)
          rw [ls_len] at this
          have := HG3.out.lw.few
          omega)
        obtain ⟨v6, w6, hr6, o1, o2, o3⟩ := append_src (T := 80) (E := 3) Tryz.underlying80 hi0 hi1 hi2 hi3 rfl (by decide) (by decide) w3 w.heap.size u7 nums.length _ _ q.length _ 80 HI3.out.row HG3.out.size hp3'.src (by have := HI3.out.len; have := HQl.out; have : i * 20000 ≤ 20000 * 20000 := Nat.mul_le_mul_right _ (by omega); omega)
        obtain ⟨y2, y2a, y2b, hlw2, ho2, ha2⟩ := HI3.out.push HG3.out.lw HFi.out o1 o2 o3
        have HG6 := Lib.hid (HG3.out.push (y' := y2) hlw2 o2 (fun b e => (World.ownsRow.lt HI3.out.row b e).1))
        have HA6 := Lib.hid ha2
        have HY6 : Hid (∀ b, p.y b → y2 b) := Lib.hid (fun b z => y2a b (HY.out b z))
        have HR6 := Lib.hid hr6
        rw [e1] at hz hf0 hfw ⊢
        clear q3 hp3 hp3' hr6 o1 o2 o3 y2a y2b hlw2 ho2 ha2 hf1 hb3
        go_wp2_with (first | (at_builtin; refine Lib.wpList_append_run _ rfl _ _ _ _ rfl _ _ rfl rfl v6 w6 HR6.out ?_) | fail)
        refine ⟨⟨i + 1, nums ++ q, os, fs, y2, ns3, F3, false, by omega, by go_num, HY6, HG6, HA6, Lib.hid (fun _ a b c d hv => ?_)⟩, by simp [intOf]; omega⟩
        rw [HSd.out a b c d hv]
        unfold saidBy fP
        rw [List.all_append, List.any_cons, List.any_nil, Bool.or_false]
        cases nums.all (trueAt ns3 a b (c + s) d) <;> cases q.all (trueAt ns3 a b (c + s) d) <;> cases fs.all (fun f => List.any f fun p => p.all (trueAt ns3 a b (c + s) d)) <;> rfl
      · have hz1 : ((f.length : Int) == 1) = false := (int_ne (by omega)).1
        have hal : Below w3.heap.size w3 (w3.alloc (.cells #[.slice A3 f.length c3] 29)) := (Below.refl _ _).alloc (Nat.le_refl _) _
        have hga := Grow.of HG3.out.lw hal
        have HI4 := HI3.out.grow hga
        have HK4 := HK3.out.grow hga
        obtain ⟨v6, w6, hr6, o1, o2, o3⟩ := append_src (T := 147) (E := 29) Tryz.underlying147 hj0 hj1 hj2 hj3 rfl (by decide) (by decide) _ w.heap.size u8 os.length os _ 1 _ 147 HI4.oth.own (Nat.le_trans HG3.out.size hal.size) (one_src w3 A3 f.length c3) (by have := HI4.few; omega)
        obtain ⟨y2, y2a, y2b, hlw2, ho2, ha2⟩ := HI4.pushF hga.lw HK4 HFi.out o1 o2 o3
        have HG6 := Lib.hid ((HG3.out.trans hga).push (y' := y2) hlw2 o2 (fun b e => (World.ownsRow.lt HI4.oth.own b e).1))
        have HA6 := Lib.hid ha2
        have HY6 : Hid (∀ b, p.y b → y2 b) := Lib.hid (fun b z => y2a b (HY.out b z))
        have HR6 := Lib.hid hr6
        clear hr6 o1 o2 o3 y2a y2b hlw2 ho2 ha2 hf1 hal hga HI4 HK4
        go_wp2_with (first | (at_builtin; refine Lib.wpList_append_run _ rfl _ _ _ _ rfl _ _ rfl rfl v6 w6 HR6.out ?_) | fail)
        refine ⟨⟨i + 1, nums, os ++ [.slice A3 f.length c3], fs ++ [f], y2, ns3, F3, false, by omega, by go_num, HY6, HG6, HA6, Lib.hid (fun _ a b c d hv => ?_)⟩, by simp [intOf]; omega⟩
        rw [HSd.out a b c d hv]
        unfold saidBy
        rw [List.all_append, List.all_cons, List.all_nil, Bool.and_true, Bool.and_assoc]
    · obtain rfl : i = l.length := by omega
      have HSd : Hid (many1 = false → SaidTo V s val l ns1 nums fs) := Lib.hid (fun hm => by have := HS.out hm; rw [List.take_length] at this; exact this)
      have hnl : nums.length ≤ 1000000000 := by have := HI.out.len; have : l.length * 20000 ≤ 20000 * 20000 := Nat.mul_le_mul_right _ hl2; omega
      have HNi : Hid (∀ n ∈ nums, IsI n) := Lib.hid (fun n hn => by have := HI.out.inn n hn; have := HG.out.lw.few; unfold isIn at *; unfold IsI; omega)
      go_wp2_with fail
      refine (fSort HI.out.row hnl).mono ?_
      rintro e w2 ⟨rfl, hs, hgs⟩
      have hlw2 := HG.out.lw.turnY hgs (fun b e => HI.out.x7 b e)
      have ho2 : OffF (XY { p with y := y1 } F1) wr w2 := ⟨hgs.os, hgs.tape, hgs.output, hgs.size, fun b hb hn => hgs.block b hb (fun e => hn (Or.inr (HI.out.x7 b e.symm).1))⟩
      have HG2 := Lib.hid (HG.out.push (y' := y1) hlw2 hgs (fun b e => (World.ownsRow.lt HI.out.row b e).1))
      have HF2 : Hid (FRow (XY { p with y := y1 } F1) ns1 w2 w.heap.size u8 os fs) := Lib.hid ⟨own_grown HI.out.oth.own hgs (fun b e z => HI.out.ap b z e), HI.out.oth.fl, fun k a b => ⟨(HI.out.oth.keep k a b).1.step ho2 (fun b z => Or.inl z), (HI.out.oth.keep k a b).2⟩⟩
      have HIn := Lib.hid hs
      have hsl : (nums.mergeSort fun x y => decide (x ≤ y)).length = nums.length := List.length_mergeSort _
      have HCo := Lib.hid (fCompact2 hs (fun x hx => HNi.out x (List.mem_mergeSort.1 hx)) (by rw [hsl]; exact hnl))
      have hcu := compact_up (sort_le nums)
      obtain ⟨q, hq⟩ : ∃ q, Lib.compact (nums.mergeSort fun x y => decide (x ≤ y)) = q := ⟨_, rfl⟩
      rw [hq] at HCo hcu
      have HCu : Hid (Up q ∧ ∀ n, n ∈ q ↔ n ∈ nums) := Lib.hid ⟨hcu.1, fun n => (hcu.2 n).trans (sort_mem nums n)⟩
      clear hs hgs hlw2 ho2 hsl hcu hq
      go_wp2_with fail
      refine HCo.out.mono ?_
      rintro e w4 ⟨A4, c4, rfl, hi4, hA4, hg4⟩
      have hlw4 := HG2.out.lw.turnY hg4 (fun b e => HI.out.x7 b e)
      have ho4 : OffF (XY { p with y := y1 } F1) w2 w4 := ⟨hg4.os, hg4.tape, hg4.output, hg4.size, fun b hb hn => hg4.block b hb (fun e => hn (Or.inr (HI.out.x7 b e.symm).1))⟩
      have HG4 := Lib.hid (HG2.out.push (y' := y1) hlw4 hg4 (fun b e => (World.ownsRow.lt HI.out.row b e).1))
      have hF4 : FRow (XY { p with y := y1 } F1) ns1 w4 w.heap.size u8 os fs := ⟨own_grown HF2.out.own hg4 (fun b e z => HI.out.ap b z e), HF2.out.fl, fun k a b => ⟨(HF2.out.keep k a b).1.step ho4 (fun b z => Or.inl z), (HF2.out.keep k a b).2⟩⟩
      have HGp := Lib.hid (HG4.out.lessY HY.out)
      have hFp : FRow (XY p F1) ns1 w4 w.heap.size u8 os fs := ⟨hF4.own, hF4.fl, fun k a b => ⟨(hF4.keep k a b).1.less (fun b z => z.imp id (HY.out b)), (hF4.keep k a b).2⟩⟩
      have hba : Below w4.heap.size w4 (w4.alloc (.cells #[.slice A4 q.length c4] 80)) := (Below.refl _ _).alloc (Nat.le_refl _) _
      have HG5 := Lib.hid (HGp.out.next hba)
      have HF5 := Lib.hid (hFp.grow (Grow.of HGp.out.lw hba) (fun b e => (HI.out.x8 b e).2))
      have HK5 := Lib.hid (keeps_prod (p := p) (ns1 := ns1) (F1 := F1) hi4 (fun b off s e z => by
        have hb := hA4 b off s e
        rcases z with z | z
        · exact (HI.out.x7 b hb).2 z
        · have h1 := HW.out.ylow b z
          have h2 := (World.ownsRow.lt HI.out.row b hb).1
          omega) (fun b z => HGp.out.lw.lowY b z))
      have HI5 : Hid (FmIn (Ls ns1) [q]) := Lib.hid ⟨one_fmd HCu.out.1 (fun n hn => by have := HI.out.inn n ((HCu.out.2 n).1 hn); exact this.1), (fun r hr n hn => by rw [List.mem_singleton.1 hr] at hn; exact ls_mem.2 (HI.out.inn n ((HCu.out.2 n).1 hn))), by simp⟩
      have HX8 : Hid (∀ b, u8.ownBlock = some b → ¬ XB p F1 b) := Lib.hid (fun b e => (HI.out.x8 b e).2)
      have HD5 : Hid (many1 = false → ∀ a b c d, V a b c d → fP (trueAt ns1 a b (c + s) d) [q] = nums.all (trueAt ns1 a b (c + s) d)) := Lib.hid (fun _ a b c d _ => by
        unfold fP
        rw [List.any_cons, List.any_nil, Bool.or_false, Bool.eq_iff_iff, List.all_eq_true, List.all_eq_true]
        exact ⟨fun z n hn => z n ((HCu.out.2 n).2 hn), fun z n hn => z n ((HCu.out.2 n).1 hn)⟩)
      have HNm : Hid (∀ n ∈ nums, isIn ns1 n) := Lib.hid HI.out.inn
      have hos : os.length ≤ 20000 := by have := HI.out.few; omega
      have HFin : Hid (∀ k (h : k < fs.length), FmIn (Ls ns1) fs[k]) := Lib.hid (fun k hk => (HI.out.oth.keep k hk (by rw [← HI.out.oth.fl]; exact hk)).2)
      obtain ⟨A8, c8, hu8⟩ := own_slice HI.out.oth.own
      subst hu8
      clear hi4 hA4 hg4 hlw4 ho4 hF4 hFp hba HI HIn HCo
      obtain ⟨w5, hw5⟩ : ∃ w5, w5 = w4.alloc (.cells #[.slice A4 q.length c4] 80) := ⟨_, rfl⟩
      rw [← hw5] at HG5 HF5 HK5
      have HW5 := Lib.hid hw5
      clear hw5
      go_wp2_with fail
      rw [← HW5.out]
      go_loopw [12, 56] (fun u v wr => ∃ (j : Nat) (f : Fm) (ns2 : List Nd) (F2 : Nat → Prop) (many2 : Bool), j ≤ os.length ∧ v = .int .i64 j ∧ Hid (Grow p w ns F many wr ns2 F2 many2) ∧ Hid (Keeps (XY p F2) wr u f) ∧ Hid (FmIn (Ls ns2) f) ∧ Hid (FRow (XY p F2) ns2 wr w.heap.size (.slice A8 os.length c8) os fs) ∧ Hid (∀ b, (Value.slice A8 os.length c8).ownBlock = some b → ¬ XB p F2 b) ∧ Hid (∃ m, ns2 = ns1 ++ m) ∧ Hid (many2 = false → many1 = false ∧ ∀ a b c d, V a b c d → fP (trueAt ns2 a b (c + s) d) f = (nums.all (trueAt ns2 a b (c + s) d) && (fs.take j).all (fun g => fP (trueAt ns2 a b (c + s) d) g)))) (fun _ v _ => os.length - (intOf v).toNat)
      case atStart => exact ⟨0, [q], ns1, F1, many1, Nat.zero_le _, rfl, HG5, HK5, HI5, HF5, HX8, Lib.hid ⟨[], (List.append_nil _).symm⟩, Lib.hid (fun hm => ⟨hm, fun a b c d hv => by rw [HD5.out hm a b c d hv, List.take_zero, List.all_nil, Bool.and_true]⟩)⟩
      case round =>
        clear HG5 HK5 HI5 HF5 HX8 HD5 HW5
        obtain ⟨j, f, ns2, F2, many2, hj, rfl, HGr, HKr, HIr, HFr, HXr, HMo, HDr⟩ := hrel
        obtain ⟨A7, c7, hu⟩ := HKr.out.at
        subst hu
        by_cases hjl : j < os.length
        · have h1 : (0 : Int) ≤ (j : Int) := by omega
          have h2 : (j : Int) < (os.length : Int) := by omega
          have hjf : j < fs.length := by rw [HFr.out.fl]; exact hjl
          obtain ⟨hkj, hij⟩ := HFr.out.keep j hjf hjl
          obtain ⟨g, hA8⟩ : ∃ g, A8 = some ⟨g, 0, none⟩ := by
            rcases HFr.out.own.2 with ⟨e, _⟩ | ⟨g, cap, cur, e, _⟩
            · injection e with _ e _; omega
            · injection e with e _ _; exact ⟨g, e⟩
          subst hA8
          have q0 := World.ownsRow.cellAt HFr.out.own j (by omega)
          rw [List.getElem?_eq_getElem hjl] at q0
          obtain ⟨B, d, hB⟩ := hkj.at
          obtain ⟨fj, hfj⟩ : ∃ fj, fs[j] = fj := ⟨_, rfl⟩
          rw [hfj] at hkj hij hB
          rw [hB] at q0 hkj
          have HFj := Lib.hid hfj
          have HE := Lib.hid (lBoth HGr.out.lw HKr.out hkj HIr.out hij)
          clear hB hfj
          go_wp2_with fail
          refine HE.out.mono ?_
          rintro e w6 ⟨v6, g6, ns6, F6, many6, rfl, hg6, hk6, hi6, hd6⟩
          obtain ⟨A6, c6, hv6⟩ := hk6.at
          subst hv6
          have HG6 := Lib.hid hg6
          have HK6 := Lib.hid hk6
          have HI6 := Lib.hid hi6
          have HD6 := Lib.hid hd6
          clear hg6 hk6 hi6 hd6
          go_wp2_with fail
          have hg6 := HG6.out
          have hk6 := HK6.out
          have hi6 := HI6.out
          have hd6 := HD6.out
          refine ⟨⟨j + 1, g6, ns6, F6, many6, by omega, by go_num, Lib.hid (HGr.out.trans hg6), Lib.hid hk6, Lib.hid hi6, Lib.hid (HFr.out.grow hg6 HXr.out), Lib.hid (fun b e z => by
            rcases hg6.xlow b z with z | z
            · exact HXr.out b e z
            · have := (World.ownsRow.lt HFr.out.own b e).2; omega), Lib.hid (by obtain ⟨m, hm⟩ := HMo.out; obtain ⟨m2, hm2⟩ := hg6.more; exact ⟨m ++ m2, by rw [hm2, hm, List.append_assoc]⟩), Lib.hid (fun hm => ?_)⟩, by simp [intOf]; omega⟩
          have hm2 : many2 = false := by cases many2 with | false => rfl | true => have := hg6.mono rfl; rw [hm] at this; cases this
          obtain ⟨hm1, hd2⟩ := HDr.out hm2
          obtain ⟨m, hmore⟩ := hg6.more
          obtain ⟨m0, hmo⟩ := HMo.out
          refine ⟨hm1, fun a b c d hv => ?_⟩
          rw [hd6 hm, take_allF hjf, HFj.out]
          have e1 : fP (trueAt ns6 a b (c + s) d) f = fP (trueAt ns2 a b (c + s) d) f := by rw [hmore]; exact fP_up HIr.out.inF m (c + s) d
          have e2 : nums.all (trueAt ns6 a b (c + s) d) = nums.all (trueAt ns2 a b (c + s) d) := by
            rw [hmore]
            exact all_agree (fun n hn => by unfold trueAt; rw [nodeT_up a b m (by rw [hmo]; exact (HNm.out n hn).up m0)])
          have e3 : (fs.take j).all (fun g => fP (trueAt ns6 a b (c + s) d) g) = (fs.take j).all (fun g => fP (trueAt ns2 a b (c + s) d) g) := by
            rw [hmore, Bool.eq_iff_iff, List.all_eq_true, List.all_eq_true]
            have hh : ∀ g ∈ fs.take j, fP (trueAt (ns2 ++ m) a b (c + s) d) g = fP (trueAt ns2 a b (c + s) d) g := fun g hg => fP_up (HFr.out.inF g (List.mem_of_mem_take hg)) m (c + s) d
            exact ⟨fun z g hg => by rw [← hh g hg]; exact z g hg, fun z g hg => by rw [hh g hg]; exact z g hg⟩
          rw [e1, e2, e3, hd2 a b c d hv, Bool.and_assoc]
        · obtain rfl : j = os.length := by omega
          go_wp2_with fail
          go_ret
          refine LAns.done HGr.out HKr.out HIr.out (fun hm a b c d hv => ?_)
          obtain ⟨hm1, hd2⟩ := HDr.out hm
          obtain ⟨m0, hmo⟩ := HMo.out
          have := hd2 a b c d hv
          rw [List.take_of_length_le (by rw [HFr.out.fl]; exact Nat.le_refl _)] at this
          show fP (trueAt ns2 a b (c + s) d) f = _
          rw [this]
          show saidBy nums fs (trueAt ns2 a b (c + s) d) = l.all (fun x => val x a b c d)
          rw [HSd.out hm1 a b c d hv, hmo]
          exact said_up HNm.out (fun f hf => by
            obtain ⟨k, hk, rfl⟩ := List.mem_iff_getElem.1 hf
            exact (HFin.out k hk).inF) m0 a b (c + s) d

set_option maxRecDepth 100000 in
set_option maxHeartbeats 16000000 in
theorem lAndAhead (bx by_ : Nat) {l : List Int} {v : Value} (h : LW p w ns F many) (hl : KeepsL (XY p F) w v l) (hl2 : l.length ≤ 20000) {V : List Nat → List Nat → Nat → Nat → Prop} {s : Nat} {val : Int → List Nat → List Nat → Nat → Nat → Bool}
    (hof : OfIs p w ns F many 156 (fun x => #[.int .i64 x, .pointer (some ⟨bx, 0, none⟩), .pointer (some ⟨by_, 0, none⟩)]) l V s val) :
    Calls Tryz.prog 76 #[.pointer (some ⟨p.gw, 0, none⟩), v, .func (.func 156) #[] #[.pointer (some ⟨bx, 0, none⟩), .pointer (some ⟨by_, 0, none⟩)]] w (LAns p w ns F many fun ms f => Den V s (fun a b c d => l.all (fun x => val x a b c d)) ms f) := by
  obtain ⟨A, c, rfl, hlc, hc63, _⟩ := hl.here
  have HW := Lib.hid h
  have HL := Lib.hid hl
  have HOf := Lib.hid hof
  have hl63 : l.length ≤ 9223372036854775807 := by omega
  obtain ⟨i0, hi0, hi1, hi2, hi3⟩ := info_parts info_int1
  obtain ⟨j0, hj0, hj1, hj2, hj3⟩ := info_parts info_fm
  clear h hl hof hlc hc63
  go_enter Tryz.func76, Tryz.ntmps76
  go_wp2_with fail
  go_loopw [7, 8, 17] (fun u7 u8 v wr => ∃ (i : Nat) (nums : List Int) (os : List Value) (fs : List Fm) (y1 : Nat → Prop) (ns1 : List Nd) (F1 : Nat → Prop) (many1 : Bool), i ≤ l.length ∧ v = .int .i64 i ∧ Hid (∀ b, p.y b → y1 b) ∧ Hid (Grow { p with y := y1 } w ns F many wr ns1 F1 many1) ∧ Hid (AndI { p with y := y1 } w wr ns1 F1 u7 u8 i nums os fs) ∧ Hid (many1 = false → SaidTo V s val (l.take i) ns1 nums fs)) (fun _ _ v _ => l.length - (intOf v).toNat)
  case atStart => exact ⟨0, [], [], [], p.y, ns, F, many, Nat.zero_le _, rfl, Lib.hid (fun b q => q), Lib.hid (Grow.refl HW.out), Lib.hid ⟨World.ownsRow_nil _ _ _ _, ⟨World.ownsRow_nil _ _ _ _, rfl, fun k a _ => absurd a (Nat.not_lt_zero _)⟩, (fun n hn => by cases hn), Nat.zero_le _, Nat.zero_le _, (fun b e => by cases e), (fun b e => by cases e), (fun b e => by cases e)⟩, Lib.hid (fun _ a b c d _ => rfl)⟩
  case round =>
    obtain ⟨i, nums, os, fs, y1, ns1, F1, many1, hi, rfl, HY, HG, HI, HS⟩ := hrel
    by_cases hlt : i < l.length
    · have h1 : (0 : Int) ≤ (i : Int) := by omega
      have h2 : (i : Int) < (l.length : Int) := by omega
      obtain ⟨b, off, rfl, hbl, q0⟩ := (HL.out wr (OffF.xy (p := p) HG.out.off)).at i hlt
      obtain ⟨x, hx⟩ : ∃ x, inAt l i = x := ⟨_, rfl⟩
      rw [hx] at q0
      have hxe : l[i] = x := by rw [← hx, inAt_lt hlt]
      have HX : Hid (l[i] = x) := Lib.hid hxe
      have HXm : Hid (x ∈ l) := Lib.hid (by rw [← hxe]; exact List.getElem_mem hlt)
      have HC := Lib.hid (HOf.out y1 wr ns1 F1 many1 x HXm.out HG.out)
      clear hx hxe hbl
      go_wp2_with fail
      refine HC.out.mono ?_
      rintro e w3 ⟨v3, f, ns3, F3, many3, rfl, hg3, hk3, hi3, hd3⟩
      have HG3 := Lib.hid (HG.out.trans hg3)
      have HG13 := Lib.hid hg3
      have HI3 := Lib.hid (HI.out.grow hg3)
      have HFi := Lib.hid hi3
      have HD3 := Lib.hid hd3
      have HK3 := Lib.hid hk3
      obtain ⟨A3, c3, hv3⟩ := hk3.at
      subst hv3
      have c7 := hg3.lw.cells.2.2.2.2.2.2.2
      have hfw := hi3.few
      clear hg3 hi3 hd3 hk3 q0 HC
      cases many3
      rotate_left
      · clear c7
        have c7 : w3.cell? ⟨p.gw, 7, none⟩ = some (.bool true) := HG3.out.lw.cells.2.2.2.2.2.2.2
        go_wp2_with fail
        refine (lFalse w3).mono ?_
        rintro e w4 ⟨A4, c4, rfl, hf4, hb4⟩
        have HEnd := Lib.hid ((HG3.out.lessY HY.out).next hb4)
        have HKe := Lib.hid (FmFrom.keeps (HG3.out.lw.lessY HY.out) hf4)
        clear hf4 hb4
        go_wp2_with fail
        go_ret
        exact LAns.done HEnd.out HKe.out (FmIn.nil _) (fun q => by cases q)
      have c7' : w3.cell? ⟨p.gw, 7, none⟩ = some (.bool false) := c7
      clear c7
      have HM1 : Hid (many1 = false) := Lib.hid (by cases many1 with | false => rfl | true => have := HG13.out.mono rfl; cases this)
      have HSd : Hid (∀ a b c d, V a b c d → (l.take (i + 1)).all (fun x => val x a b c d) = (saidBy nums fs (trueAt ns3 a b (c + s) d) && fP (trueAt ns3 a b (c + s) d) f)) := Lib.hid (fun a b c d hv => by
        rw [take_all hlt, HX.out, HS.out HM1.out a b c d hv]
        obtain ⟨m, hm⟩ := HG13.out.more
        congr 1
        · rw [hm, said_up HI.out.inn HI.out.oth.inF]
        · exact (HD3.out rfl a b c d hv).symm)
      by_cases hf0 : f.length = 0
      · have hf : f = [] := List.eq_nil_of_length_eq_zero hf0
        subst hf
        have hz : ((([] : Fm).length : Int) == 0) = true := rfl
        have hz2 : (([] : Fm).length : Int) = 0 := rfl
        clear hf0
        go_wp2_with fail
        refine (lFalse w3).mono ?_
        rintro e w4 ⟨A4, c4, rfl, hf4, hb4⟩
        have HEnd := Lib.hid ((HG3.out.lessY HY.out).next hb4)
        have HKe := Lib.hid (FmFrom.keeps (HG3.out.lw.lessY HY.out) hf4)
        clear hf4 hb4
        go_wp2_with fail
        go_ret
        refine LAns.done HEnd.out HKe.out (FmIn.nil _) (fun _ a b c d hv => ?_)
        have := HSd.out a b c d hv
        rw [show fP (trueAt ns3 a b (c + s) d) [] = false from rfl, Bool.and_false] at this
        rw [fP_false]
        refine (Bool.eq_false_iff.2 (fun q => ?_)).symm
        have h5 : (l.take (i + 1)).all (fun x => val x a b c d) = true := List.all_eq_true.2 (fun y hy => List.all_eq_true.1 q y (List.mem_of_mem_take hy))
        rw [this] at h5; cases h5
      have hz : ((f.length : Int) == 0) = false := (int_ne (by omega)).1
      by_cases hf1 : f.length = 1
      · obtain ⟨q, hq⟩ : ∃ q, f = [q] := by
          match f, hf1 with
          | [q], _ => exact ⟨q, rfl⟩
        subst hq
        obtain ⟨b3, off3, A5, c5, hA3, hb3, q3, hp3⟩ := HK3.out.here.at 0 (by simp)
        subst hA3
        rw [Nat.add_zero] at q3
        have q3' : w3.cell? ⟨b3, off3, none⟩ = some (.slice A5 q.length c5) := q3
        have hp3' : IntsAt w3 (.slice A5 q.length c5) q := hp3
        have e1 : ([q] : Fm).length = 1 := rfl
        have HQl : Hid (q.length ≤ 20000) := Lib.hid (by
          have := HFi.out.part (ls_up ns3) (show q ∈ [q] by simp)
          rw [ls_len] at this
          have := HG3.out.lw.few
          omega)
        obtain ⟨v6, w6, hr6, o1, o2, o3⟩ := append_src (T := 80) (E := 3) Tryz.underlying80 hi0 hi1 hi2 hi3 rfl (by decide) (by decide) w3 w.heap.size u7 nums.length _ _ q.length _ 80 HI3.out.row HG3.out.size hp3'.src (by have := HI3.out.len; have := HQl.out; have : i * 20000 ≤ 20000 * 20000 := Nat.mul_le_mul_right _ (by omega); omega)
        obtain ⟨y2, y2a, y2b, hlw2, ho2, ha2⟩ := HI3.out.push HG3.out.lw HFi.out o1 o2 o3
        have HG6 := Lib.hid (HG3.out.push (y' := y2) hlw2 o2 (fun b e => (World.ownsRow.lt HI3.out.row b e).1))
        have HA6 := Lib.hid ha2
        have HY6 : Hid (∀ b, p.y b → y2 b) := Lib.hid (fun b z => y2a b (HY.out b z))
        have HR6 := Lib.hid hr6
        rw [e1] at hz hf0 hfw ⊢
        clear q3 hp3 hp3' hr6 o1 o2 o3 y2a y2b hlw2 ho2 ha2 hf1 hb3
        go_wp2_with (first | (at_builtin; refine Lib.wpList_append_run _ rfl _ _ _ _ rfl _ _ rfl rfl v6 w6 HR6.out ?_) | fail)
        refine ⟨⟨i + 1, nums ++ q, os, fs, y2, ns3, F3, false, by omega, by go_num, HY6, HG6, HA6, Lib.hid (fun _ a b c d hv => ?_)⟩, by simp [intOf]; omega⟩
        rw [HSd.out a b c d hv]
        unfold saidBy fP
        rw [List.all_append, List.any_cons, List.any_nil, Bool.or_false]
        cases nums.all (trueAt ns3 a b (c + s) d) <;> cases q.all (trueAt ns3 a b (c + s) d) <;> cases fs.all (fun f => List.any f fun p => p.all (trueAt ns3 a b (c + s) d)) <;> rfl
      · have hz1 : ((f.length : Int) == 1) = false := (int_ne (by omega)).1
        have hal : Below w3.heap.size w3 (w3.alloc (.cells #[.slice A3 f.length c3] 29)) := (Below.refl _ _).alloc (Nat.le_refl _) _
        have hga := Grow.of HG3.out.lw hal
        have HI4 := HI3.out.grow hga
        have HK4 := HK3.out.grow hga
        obtain ⟨v6, w6, hr6, o1, o2, o3⟩ := append_src (T := 147) (E := 29) Tryz.underlying147 hj0 hj1 hj2 hj3 rfl (by decide) (by decide) _ w.heap.size u8 os.length os _ 1 _ 147 HI4.oth.own (Nat.le_trans HG3.out.size hal.size) (one_src w3 A3 f.length c3) (by have := HI4.few; omega)
        obtain ⟨y2, y2a, y2b, hlw2, ho2, ha2⟩ := HI4.pushF hga.lw HK4 HFi.out o1 o2 o3
        have HG6 := Lib.hid ((HG3.out.trans hga).push (y' := y2) hlw2 o2 (fun b e => (World.ownsRow.lt HI4.oth.own b e).1))
        have HA6 := Lib.hid ha2
        have HY6 : Hid (∀ b, p.y b → y2 b) := Lib.hid (fun b z => y2a b (HY.out b z))
        have HR6 := Lib.hid hr6
        clear hr6 o1 o2 o3 y2a y2b hlw2 ho2 ha2 hf1 hal hga HI4 HK4
        go_wp2_with (first | (at_builtin; refine Lib.wpList_append_run _ rfl _ _ _ _ rfl _ _ rfl rfl v6 w6 HR6.out ?_) | fail)
        refine ⟨⟨i + 1, nums, os ++ [.slice A3 f.length c3], fs ++ [f], y2, ns3, F3, false, by omega, by go_num, HY6, HG6, HA6, Lib.hid (fun _ a b c d hv => ?_)⟩, by simp [intOf]; omega⟩
        rw [HSd.out a b c d hv]
        unfold saidBy
        rw [List.all_append, List.all_cons, List.all_nil, Bool.and_true, Bool.and_assoc]
    · obtain rfl : i = l.length := by omega
      have HSd : Hid (many1 = false → SaidTo V s val l ns1 nums fs) := Lib.hid (fun hm => by have := HS.out hm; rw [List.take_length] at this; exact this)
      have hnl : nums.length ≤ 1000000000 := by have := HI.out.len; have : l.length * 20000 ≤ 20000 * 20000 := Nat.mul_le_mul_right _ hl2; omega
      have HNi : Hid (∀ n ∈ nums, IsI n) := Lib.hid (fun n hn => by have := HI.out.inn n hn; have := HG.out.lw.few; unfold isIn at *; unfold IsI; omega)
      go_wp2_with fail
      refine (fSort HI.out.row hnl).mono ?_
      rintro e w2 ⟨rfl, hs, hgs⟩
      have hlw2 := HG.out.lw.turnY hgs (fun b e => HI.out.x7 b e)
      have ho2 : OffF (XY { p with y := y1 } F1) wr w2 := ⟨hgs.os, hgs.tape, hgs.output, hgs.size, fun b hb hn => hgs.block b hb (fun e => hn (Or.inr (HI.out.x7 b e.symm).1))⟩
      have HG2 := Lib.hid (HG.out.push (y' := y1) hlw2 hgs (fun b e => (World.ownsRow.lt HI.out.row b e).1))
      have HF2 : Hid (FRow (XY { p with y := y1 } F1) ns1 w2 w.heap.size u8 os fs) := Lib.hid ⟨own_grown HI.out.oth.own hgs (fun b e z => HI.out.ap b z e), HI.out.oth.fl, fun k a b => ⟨(HI.out.oth.keep k a b).1.step ho2 (fun b z => Or.inl z), (HI.out.oth.keep k a b).2⟩⟩
      have HIn := Lib.hid hs
      have hsl : (nums.mergeSort fun x y => decide (x ≤ y)).length = nums.length := List.length_mergeSort _
      have HCo := Lib.hid (fCompact2 hs (fun x hx => HNi.out x (List.mem_mergeSort.1 hx)) (by rw [hsl]; exact hnl))
      have hcu := compact_up (sort_le nums)
      obtain ⟨q, hq⟩ : ∃ q, Lib.compact (nums.mergeSort fun x y => decide (x ≤ y)) = q := ⟨_, rfl⟩
      rw [hq] at HCo hcu
      have HCu : Hid (Up q ∧ ∀ n, n ∈ q ↔ n ∈ nums) := Lib.hid ⟨hcu.1, fun n => (hcu.2 n).trans (sort_mem nums n)⟩
      clear hs hgs hlw2 ho2 hsl hcu hq
      go_wp2_with fail
      refine HCo.out.mono ?_
      rintro e w4 ⟨A4, c4, rfl, hi4, hA4, hg4⟩
      have hlw4 := HG2.out.lw.turnY hg4 (fun b e => HI.out.x7 b e)
      have ho4 : OffF (XY { p with y := y1 } F1) w2 w4 := ⟨hg4.os, hg4.tape, hg4.output, hg4.size, fun b hb hn => hg4.block b hb (fun e => hn (Or.inr (HI.out.x7 b e.symm).1))⟩
      have HG4 := Lib.hid (HG2.out.push (y' := y1) hlw4 hg4 (fun b e => (World.ownsRow.lt HI.out.row b e).1))
      have hF4 : FRow (XY { p with y := y1 } F1) ns1 w4 w.heap.size u8 os fs := ⟨own_grown HF2.out.own hg4 (fun b e z => HI.out.ap b z e), HF2.out.fl, fun k a b => ⟨(HF2.out.keep k a b).1.step ho4 (fun b z => Or.inl z), (HF2.out.keep k a b).2⟩⟩
      have HGp := Lib.hid (HG4.out.lessY HY.out)
      have hFp : FRow (XY p F1) ns1 w4 w.heap.size u8 os fs := ⟨hF4.own, hF4.fl, fun k a b => ⟨(hF4.keep k a b).1.less (fun b z => z.imp id (HY.out b)), (hF4.keep k a b).2⟩⟩
      have hba : Below w4.heap.size w4 (w4.alloc (.cells #[.slice A4 q.length c4] 80)) := (Below.refl _ _).alloc (Nat.le_refl _) _
      have HG5 := Lib.hid (HGp.out.next hba)
      have HF5 := Lib.hid (hFp.grow (Grow.of HGp.out.lw hba) (fun b e => (HI.out.x8 b e).2))
      have HK5 := Lib.hid (keeps_prod (p := p) (ns1 := ns1) (F1 := F1) hi4 (fun b off s e z => by
        have hb := hA4 b off s e
        rcases z with z | z
        · exact (HI.out.x7 b hb).2 z
        · have h1 := HW.out.ylow b z
          have h2 := (World.ownsRow.lt HI.out.row b hb).1
          omega) (fun b z => HGp.out.lw.lowY b z))
      have HI5 : Hid (FmIn (Ls ns1) [q]) := Lib.hid ⟨one_fmd HCu.out.1 (fun n hn => by have := HI.out.inn n ((HCu.out.2 n).1 hn); exact this.1), (fun r hr n hn => by rw [List.mem_singleton.1 hr] at hn; exact ls_mem.2 (HI.out.inn n ((HCu.out.2 n).1 hn))), by simp⟩
      have HX8 : Hid (∀ b, u8.ownBlock = some b → ¬ XB p F1 b) := Lib.hid (fun b e => (HI.out.x8 b e).2)
      have HD5 : Hid (many1 = false → ∀ a b c d, V a b c d → fP (trueAt ns1 a b (c + s) d) [q] = nums.all (trueAt ns1 a b (c + s) d)) := Lib.hid (fun _ a b c d _ => by
        unfold fP
        rw [List.any_cons, List.any_nil, Bool.or_false, Bool.eq_iff_iff, List.all_eq_true, List.all_eq_true]
        exact ⟨fun z n hn => z n ((HCu.out.2 n).2 hn), fun z n hn => z n ((HCu.out.2 n).1 hn)⟩)
      have HNm : Hid (∀ n ∈ nums, isIn ns1 n) := Lib.hid HI.out.inn
      have hos : os.length ≤ 20000 := by have := HI.out.few; omega
      have HFin : Hid (∀ k (h : k < fs.length), FmIn (Ls ns1) fs[k]) := Lib.hid (fun k hk => (HI.out.oth.keep k hk (by rw [← HI.out.oth.fl]; exact hk)).2)
      obtain ⟨A8, c8, hu8⟩ := own_slice HI.out.oth.own
      subst hu8
      clear hi4 hA4 hg4 hlw4 ho4 hF4 hFp hba HI HIn HCo
      obtain ⟨w5, hw5⟩ : ∃ w5, w5 = w4.alloc (.cells #[.slice A4 q.length c4] 80) := ⟨_, rfl⟩
      rw [← hw5] at HG5 HF5 HK5
      have HW5 := Lib.hid hw5
      clear hw5
      go_wp2_with fail
      rw [← HW5.out]
      go_loopw [12, 56] (fun u v wr => ∃ (j : Nat) (f : Fm) (ns2 : List Nd) (F2 : Nat → Prop) (many2 : Bool), j ≤ os.length ∧ v = .int .i64 j ∧ Hid (Grow p w ns F many wr ns2 F2 many2) ∧ Hid (Keeps (XY p F2) wr u f) ∧ Hid (FmIn (Ls ns2) f) ∧ Hid (FRow (XY p F2) ns2 wr w.heap.size (.slice A8 os.length c8) os fs) ∧ Hid (∀ b, (Value.slice A8 os.length c8).ownBlock = some b → ¬ XB p F2 b) ∧ Hid (∃ m, ns2 = ns1 ++ m) ∧ Hid (many2 = false → many1 = false ∧ ∀ a b c d, V a b c d → fP (trueAt ns2 a b (c + s) d) f = (nums.all (trueAt ns2 a b (c + s) d) && (fs.take j).all (fun g => fP (trueAt ns2 a b (c + s) d) g)))) (fun _ v _ => os.length - (intOf v).toNat)
      case atStart => exact ⟨0, [q], ns1, F1, many1, Nat.zero_le _, rfl, HG5, HK5, HI5, HF5, HX8, Lib.hid ⟨[], (List.append_nil _).symm⟩, Lib.hid (fun hm => ⟨hm, fun a b c d hv => by rw [HD5.out hm a b c d hv, List.take_zero, List.all_nil, Bool.and_true]⟩)⟩
      case round =>
        clear HG5 HK5 HI5 HF5 HX8 HD5 HW5
        obtain ⟨j, f, ns2, F2, many2, hj, rfl, HGr, HKr, HIr, HFr, HXr, HMo, HDr⟩ := hrel
        obtain ⟨A7, c7, hu⟩ := HKr.out.at
        subst hu
        by_cases hjl : j < os.length
        · have h1 : (0 : Int) ≤ (j : Int) := by omega
          have h2 : (j : Int) < (os.length : Int) := by omega
          have hjf : j < fs.length := by rw [HFr.out.fl]; exact hjl
          obtain ⟨hkj, hij⟩ := HFr.out.keep j hjf hjl
          obtain ⟨g, hA8⟩ : ∃ g, A8 = some ⟨g, 0, none⟩ := by
            rcases HFr.out.own.2 with ⟨e, _⟩ | ⟨g, cap, cur, e, _⟩
            · injection e with _ e _; omega
            · injection e with e _ _; exact ⟨g, e⟩
          subst hA8
          have q0 := World.ownsRow.cellAt HFr.out.own j (by omega)
          rw [List.getElem?_eq_getElem hjl] at q0
          obtain ⟨B, d, hB⟩ := hkj.at
          obtain ⟨fj, hfj⟩ : ∃ fj, fs[j] = fj := ⟨_, rfl⟩
          rw [hfj] at hkj hij hB
          rw [hB] at q0 hkj
          have HFj := Lib.hid hfj
          have HE := Lib.hid (lBoth HGr.out.lw HKr.out hkj HIr.out hij)
          clear hB hfj
          go_wp2_with fail
          refine HE.out.mono ?_
          rintro e w6 ⟨v6, g6, ns6, F6, many6, rfl, hg6, hk6, hi6, hd6⟩
          obtain ⟨A6, c6, hv6⟩ := hk6.at
          subst hv6
          have HG6 := Lib.hid hg6
          have HK6 := Lib.hid hk6
          have HI6 := Lib.hid hi6
          have HD6 := Lib.hid hd6
          clear hg6 hk6 hi6 hd6
          go_wp2_with fail
          have hg6 := HG6.out
          have hk6 := HK6.out
          have hi6 := HI6.out
          have hd6 := HD6.out
          refine ⟨⟨j + 1, g6, ns6, F6, many6, by omega, by go_num, Lib.hid (HGr.out.trans hg6), Lib.hid hk6, Lib.hid hi6, Lib.hid (HFr.out.grow hg6 HXr.out), Lib.hid (fun b e z => by
            rcases hg6.xlow b z with z | z
            · exact HXr.out b e z
            · have := (World.ownsRow.lt HFr.out.own b e).2; omega), Lib.hid (by obtain ⟨m, hm⟩ := HMo.out; obtain ⟨m2, hm2⟩ := hg6.more; exact ⟨m ++ m2, by rw [hm2, hm, List.append_assoc]⟩), Lib.hid (fun hm => ?_)⟩, by simp [intOf]; omega⟩
          have hm2 : many2 = false := by cases many2 with | false => rfl | true => have := hg6.mono rfl; rw [hm] at this; cases this
          obtain ⟨hm1, hd2⟩ := HDr.out hm2
          obtain ⟨m, hmore⟩ := hg6.more
          obtain ⟨m0, hmo⟩ := HMo.out
          refine ⟨hm1, fun a b c d hv => ?_⟩
          rw [hd6 hm, take_allF hjf, HFj.out]
          have e1 : fP (trueAt ns6 a b (c + s) d) f = fP (trueAt ns2 a b (c + s) d) f := by rw [hmore]; exact fP_up HIr.out.inF m (c + s) d
          have e2 : nums.all (trueAt ns6 a b (c + s) d) = nums.all (trueAt ns2 a b (c + s) d) := by
            rw [hmore]
            exact all_agree (fun n hn => by unfold trueAt; rw [nodeT_up a b m (by rw [hmo]; exact (HNm.out n hn).up m0)])
          have e3 : (fs.take j).all (fun g => fP (trueAt ns6 a b (c + s) d) g) = (fs.take j).all (fun g => fP (trueAt ns2 a b (c + s) d) g) := by
            rw [hmore, Bool.eq_iff_iff, List.all_eq_true, List.all_eq_true]
            have hh : ∀ g ∈ fs.take j, fP (trueAt (ns2 ++ m) a b (c + s) d) g = fP (trueAt ns2 a b (c + s) d) g := fun g hg => fP_up (HFr.out.inF g (List.mem_of_mem_take hg)) m (c + s) d
            exact ⟨fun z g hg => by rw [← hh g hg]; exact z g hg, fun z g hg => by rw [hh g hg]; exact z g hg⟩
          rw [e1, e2, e3, hd2 a b c d hv, Bool.and_assoc]
        · obtain rfl : j = os.length := by omega
          go_wp2_with fail
          go_ret
          refine LAns.done HGr.out HKr.out HIr.out (fun hm a b c d hv => ?_)
          obtain ⟨hm1, hd2⟩ := HDr.out hm
          obtain ⟨m0, hmo⟩ := HMo.out
          have := hd2 a b c d hv
          rw [List.take_of_length_le (by rw [HFr.out.fl]; exact Nat.le_refl _)] at this
          show fP (trueAt ns2 a b (c + s) d) f = _
          rw [this]
          show saidBy nums fs (trueAt ns2 a b (c + s) d) = l.all (fun x => val x a b c d)
          rw [HSd.out hm1 a b c d hv, hmo]
          exact said_up HNm.out (fun f hf => by
            obtain ⟨k, hk, rfl⟩ := List.mem_iff_getElem.1 hf
            exact (HFin.out k hk).inF) m0 a b (c + s) d

end

end Go.Proofs.YthifbaacmohmnaaGreat
