/- What set.Ranges answers: ranges that make up the set's list, each ending two or more ahead of the next one. -/
import Derived.Test.YtibmcdgnponpmaaDoorProg
import Derived.Test.YtibmcdgnponpmaaDoorAll
import Derived.Test.YtibmcdgnponpmaaDoorRgs
namespace Go.Proofs.YtibmcdgnponpmaaDoor
open Go.RowKit

theorem St.list_sorted (s : St) : s.list.Pairwise (· < ·) := List.Pairwise.filter _ List.pairwise_lt_range
theorem St.list_lt (s : St) (i j : Nat) (hj : j < s.list.length) (hij : i < j) : s.list[i]'(by omega) < s.list[j] := List.pairwise_iff_getElem.1 s.list_sorted i j (by omega) hj hij
theorem St.list_take_lt (s : St) (i : Nat) (hi : i < s.list.length) : ∀ x ∈ s.list.take i, x < s.list[i] := by
  intro x hx
  obtain ⟨j, hj, rfl⟩ := List.getElem_of_mem hx
  simp at hj
  rw [List.getElem_take]
  exact s.list_lt j i hi (by omega)
theorem St.list_256 (s : St) (i : Nat) (hi : i < s.list.length) : s.list[i] < 256 := by
  have h : s.list[i] ∈ s.list := List.getElem_mem _
  unfold St.list at h
  simp at h
  exact h.1
theorem St.list_len (s : St) : s.list.length ≤ 256 := by
  have := s.listTo_length 4
  rwa [St.listTo_four] at this
theorem info_pair : (Tryd.prog.info? 61).map (fun i => (i.zero, i.size, i.bytes)) = some (some (.agg #[.int .u8 0, .int .u8 0]), 2, 2) := by kernel_rfl
def YieldsR (w : World) (l : List Nat) (e : Ending) (w' : World) : Prop := ∃ v R, e = .returned v ∧ PairRow w' w.heap.size 61 v R ∧ Rg R l ∧ Below w.heap.size w w'
theorem rg_len {R : List (Nat × Nat)} {l : List Nat} (h : Rg R l) : R.length ≤ l.length := by
  rw [← h.out]
  have hp := h.ok
  clear h
  induction R with
  | nil => simp
  | cons p r ih =>
    have h1 := (hp p (by simp)).1
    have h2 := ih (fun q hq => hp q (by simp [hq]))
    simp [rg] at h2 ⊢
    omega
theorem snoc_cases (R : List (Nat × Nat)) : R = [] ∨ ∃ D a e, R = D ++ [(a, e)] := by
  rcases List.eq_nil_or_concat R with h | ⟨D, p, h⟩
  · exact .inl h
  · exact .inr ⟨D, p.1, p.2, by rw [h, List.concat_eq_append]⟩

set_option maxRecDepth 100000 in
set_option maxHeartbeats 4000000 in
theorem setRanges (s : St) (hs : s.Ok) (w : World) (hT : Tab w) :
    Calls Tryd.prog 36 #[.agg #[.int .u64 s.w0, .int .u64 s.w1, .int .u64 s.w2, .int .u64 s.w3]] w (YieldsR w s.list) := by
  obtain ⟨i0, hi0, hz0, hz1, hz2⟩ := info_parts info_pair
  have hll := s.list_len
  have HS := Lib.hid s.list_take_lt
  have H256 := Lib.hid s.list_256
  have HT := Lib.hid hT
  obtain ⟨l, hl⟩ : ∃ l : List Nat, l = s.list := ⟨_, rfl⟩
  have HA := Lib.hid (fun W hW => setAll s hs W hW)
  rw [← hl] at hll HS H256 HA ⊢
  clear hl hT
  go_enter Tryd.func36, Tryd.ntmps36
  go_wp2_with fail
  refine (HA.out _ (HT.out.alloc _)).mono ?_
  rintro e w1 ⟨v0, rfl, hV, hb1⟩
  have hVl := World.ownsRow.lt hV
  obtain ⟨A0, c0, rfl⟩ := hV.len
  have hB : Below w.heap.size w w1 := ((Below.refl _ _).alloc (Nat.le_refl _) _).trans (hb1.mono (by simp))
  clear hb1 HA
  have hw1 := hB.size
  go_wp2_with fail
  go_loopw [3, 10] (fun v i wr => ∃ (k : Nat) (R : List (Nat × Nat)), k ≤ l.length ∧ i = .int .i64 k ∧ IntRow wr (w.heap.size + 1) 5 .u8 (.slice A0 l.length c0) l ∧ PairRow wr w1.heap.size 61 v R ∧ Rg R (l.take k) ∧ Below w.heap.size w wr ∧ w1.heap.size ≤ wr.heap.size) (fun _ i _ => l.length - (intOf i).toNat)
  case atStart => exact ⟨0, [], by omega, rfl, by simpa using hV, PairRow.nil _ _ _, by simpa using Rg.nil, hB, Nat.le_refl _⟩
  case round =>
    clear hV hB
    obtain ⟨k, R, hk, rfl, hV, hP, hR, hB, hw⟩ := hrel
    by_cases hlt : k < l.length
    · obtain ⟨g0, c0', e0, hg0, _, _, _⟩ := hV.form (by omega)
      injection e0 with e1 e2 e3
      subst e1 e3
      have hgl := (hVl g0 (by simp [Value.ownBlock])).2
      have hcell := hV.at k hlt
      have hb := H256.out k hlt
      have hlow := HS.out k hlt
      have HK := Lib.hid (show l.take (k + 1) = l.take k ++ [l[k]] from by rw [List.take_succ_eq_append_getElem hlt])
      obtain ⟨b, hbb⟩ : ∃ b : Nat, b = l[k] := ⟨_, rfl⟩
      rw [← hbb] at hcell hb hlow HK
      have HL := Lib.hid hlow
      clear hbb hlow
      have hrl := rg_len hR
      rw [List.length_take] at hrl
      rcases snoc_cases R with rfl | ⟨D, a, x, rfl⟩
      · obtain ⟨A2, c2, rfl⟩ := hP.len
        have hz : decide ((0 : Int) < 0) = false := by decide
        have HP := Lib.hid hP
        have HV := Lib.hid hV
        have HR := Lib.hid hR
        clear hP hV hR
        go_wp2_with (first
          | (at_builtin
             refine wpList_append_own _ rfl _ _ _ rfl w1.heap.size 61 i0 _ 2 2 Tryd.underlying59 hi0 hz0 hz1 hz2 rfl (by omega) (.slice A2 0 c2) 0 [] rfl (HP.out.alloc _).bare ⟨_, 0, none⟩ 1 1 [.int .u8 (b : Nat), .int .u8 (b : Nat)] rfl rfl ?c1 ?c2 ?c3 ?c4 ?c5 ?_
             case c1 => exact (cell_two_new _ _ _ _)
             case c2 => simp [Value.oneCell']
             case c3 => unfold maxLen; omega
             case c4 => omega
             case c5 => simp; omega
             intro v' w4 hown4 hg4 _))
        exact ⟨⟨k + 1, [] ++ [(b, b)], by omega, by go_num, (HV.out.alloc _).grown hg4 (.inr fun e => by have := HP.out.low g0 (by exact e.symm); omega), PairRow.push hown4,
          by rw [HK.out]; exact HR.out.push (fun D p h => by simp at h) hb, (hB.alloc hB.size _).grown hg4 (by simp; omega) (fun g hg => by have := HP.out.low g hg; omega), by have := hg4.size; simp at this; omega⟩, by simp [intOf]; omega⟩
      · obtain ⟨g, cap, rfl, hgb, hgl', hcc, hmx⟩ := hP.form (by simp)
        obtain ⟨d, hd⟩ : ∃ d : Nat, d = D.length := ⟨_, rfl⟩
        have hlen : (D ++ [(a, x)]).length = d + 1 := by simp; omega
        obtain ⟨q1, q2⟩ := hP.at d (a, x) (by rw [hd]; simp)
        have hfr := hP.free (d * 2 + 1)
        have hxb : x < b := HL.out x hR.last_mem
        have hx256 := (hR.ok (a, x) (by simp)).2
        have ha256 := (hR.ok (a, x) (by simp)).1
        simp only at q1 q2 hx256 ha256
        have hcc' : d + 1 ≤ cap := by omega
        have hd256 : d ≤ 256 := by omega
        rw [hlen] at hP
        have hrow : ∀ o : Obj, (wr.alloc o).ownsRow w1.heap.size 61 2 (.slice (some ⟨g, 0, none⟩) (d + 1) cap) (d + 1) (flat (D ++ [(a, x)])) := fun o => (hP.alloc o).row hd
        have HO := Lib.hid hrow
        have hwd := hP.widen (b := b)
        rw [← hd] at hwd
        have HW := Lib.hid hwd
        have HP := Lib.hid hP
        have HV := Lib.hid hV
        have HR := Lib.hid hR
        have HLN := Lib.hid hlen
        rw [hlen]
        have hw8 : IntKind.u8.wrap ((b : Int) - 1) = (b : Int) - 1 := by rw [IntKind.wrap_u8']; omega
        unfold maxLen at hmx
        clear hP hV hR hlen hd hcc hrl hwd hrow
        rcases Nat.lt_or_ge (x + 1) b with hxx | hxx
        · have ht : ((x : Int) == (b : Int) - 1) = false := by rw [beq_eq_false_iff_ne]; omega
          go_wp2_with (first
            | (at_builtin
               refine wpList_append_own _ rfl _ _ _ rfl w1.heap.size 61 i0 _ 2 2 Tryd.underlying59 hi0 hz0 hz1 hz2 rfl (by omega) (.slice (some ⟨g, 0, none⟩) (d + 1) cap) (d + 1) (flat (D ++ [(a, x)])) rfl (HO.out _) ⟨_, 0, none⟩ 1 1 [.int .u8 (b : Nat), .int .u8 (b : Nat)] rfl rfl ?d1 ?d2 ?d3 ?d4 ?d5 ?_
               case d1 => exact (cell_two_new _ _ _ _)
               case d2 => simp [Value.oneCell']
               case d3 => unfold maxLen; omega
               case d4 => omega
               case d5 => simp; omega
               intro v' w4 hown4 hg4 _))
          rw [show d + 1 = (D ++ [(a, x)]).length from HLN.out.symm] at hown4
          exact ⟨⟨k + 1, (D ++ [(a, x)]) ++ [(b, b)], by omega, by go_num, (HV.out.alloc _).grown hg4 (.inr fun e => by have := HP.out.low g0 (by exact e.symm); omega), PairRow.push hown4,
            by rw [HK.out]; exact HR.out.push (fun D' p h => by obtain ⟨_, h2⟩ := List.append_inj' h rfl; injection h2 with h2; subst h2; exact hxx) hb, (hB.alloc hB.size _).grown hg4 (by simp; omega) (fun g hg => by have := HP.out.low g hg; omega), by have := hg4.size; simp at this; omega⟩, by simp [intOf]; omega⟩
        · have ht : ((x : Int) == (b : Int) - 1) = true := by rw [beq_iff_eq]; omega
          go_wp2_with fail
          exact ⟨⟨k + 1, D ++ [(a, b)], by omega, by go_num, HV.out.grown HW.out.2 (.inr fun e => by have := HP.out.low g0 (by exact e.symm); omega), by have := HW.out.1; exact this,
            by rw [HK.out]; exact HR.out.wider (by omega) hb, hB.setCell (by simp; omega) _, by simp; omega⟩, by simp [intOf]; omega⟩
    · have hkl : k = l.length := by omega
      subst hkl
      rw [List.take_length] at hR
      obtain ⟨A2, c2, rfl⟩ := hP.len
      go_wp2_with fail
      go_ret
      exact ⟨_, R, rfl, hP.mono (by omega), hR, hB⟩

end Go.Proofs.YtibmcdgnponpmaaDoor
