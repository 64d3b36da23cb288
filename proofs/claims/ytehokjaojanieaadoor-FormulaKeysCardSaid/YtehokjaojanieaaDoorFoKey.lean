/- package formula: Key (a Door seat). -/
import Derived.Test.YtehokjaojanieaaDoorFoKA
import Derived.Test.YtehokjaojanieaaDoorFoKM
import Derived.Test.YtehokjaojanieaaDoorFmChosen
import Derived.Test.YtehokjaojanieaaDoorLawFKeys
import Derived.Laws.IdiomStrings
import Derived.Lib.BufferRead
namespace Go.Proofs.YtehokjaojanieaaDoor
open Go.RowKit
set_option linter.unusedVariables false
set_option linter.unusedSimpArgs false

theorem info_u8K : (Tryd.prog.info? 5).map (fun i => (i.zero, i.size, i.bytes)) = some (some (.int .u8 0), 1, 1) := by kernel_rfl
/-- Bytes in a row of the call's own, appended to. -/
def BRow (w : World) (base : Nat) (v : Value) (l : List UInt8) : Prop := w.ownsRow base 5 1 v l.length (Lib.byteCells l)
section
variable {w w' : World} {base : Nat} {v : Value} {l : List UInt8}
theorem BRow.nil (w : World) (base : Nat) : BRow w base (.slice none 0 0) [] := World.ownsRow_nil w base _ 1
theorem BRow.low (h : BRow w base v l) : ∀ g, v.ownBlock = some g → base ≤ g := fun g hg => (World.ownsRow.lt h g hg).1
theorem BRow.add {m : List UInt8} (h : w.ownsRow base 5 1 v (l.length + m.length) (Lib.byteCells l ++ Lib.byteCells m)) : BRow w base v (l ++ m) := by
  unfold BRow
  rw [List.length_append, Lib.byteCells_append]
  exact h
theorem BRow.text (h : BRow w base v l) : (convert 36 9 v).run Tryd.prog w = .ok (.string ⟨l.toArray⟩) w := by
  rcases h.2 with ⟨rfl, hn⟩ | ⟨g, cap, cur, rfl, hb, hc, r1, r2, _, r3⟩
  · obtain rfl := List.eq_nil_of_length_eq_zero hn
    exact Lib.run_convert_nil_bytes w 36 9 5 0 Tryd.underlying36 Tryd.underlying5 Tryd.underlying9
  · rw [Nat.mul_one] at r3
    exact run_convert_bytes_back w 36 9 5 ⟨g, 0, none⟩ cap l Tryd.underlying36 Tryd.underlying5 Tryd.underlying9 (Lib.bytes_of_row hc r3)
theorem BRow.shape (h : BRow w base v l) : ∃ A cap, v = .slice A l.length cap := by
  rcases h.2 with ⟨rfl, hn⟩ | ⟨g, cap, cur, rfl, _⟩
  · exact ⟨none, 0, by rw [hn]⟩
  · exact ⟨_, _, rfl⟩
end

theorem fm_isI {w : World} {v : Value} {f : Fm} (h : FmAt w v f) {i : Nat} (hi : i < f.length) : ∀ n ∈ paAt f i, IsI n := by
  obtain ⟨A, c, rfl, _⟩ := id h
  obtain ⟨_, _, _, _, _, _, _, hp⟩ := h.at i hi
  obtain ⟨_, _, _, _, _, hz, _⟩ := hp
  exact hz
theorem fm_isI' {w : World} {v : Value} {f : Fm} (h : FmAt w v f) : ∀ p ∈ f, ∀ n ∈ p, IsI n := by
  intro p hp
  obtain ⟨i, hi, rfl⟩ := List.mem_iff_getElem.1 hp
  rw [← paAt_lt hi]
  exact fm_isI h hi
theorem flat_le_take {f : Fm} (i : Nat) : (f.take i).flatten.length ≤ f.flatten.length := by
  conv => rhs; rw [← List.take_append_drop i f]
  rw [List.flatten_append, List.length_append]; omega

set_option maxRecDepth 100000 in
set_option maxHeartbeats 8000000 in
theorem fKey {w : World} {A : Option Addr} {n c : Nat} {f : Fm} (hT : PTab w) (h : FmAt w (.slice A n c) f) (h1 : f.flatten.length ≤ 300) (h2 : f.length ≤ 300) :
    Calls Tryd.prog 8 #[.slice A n c] w fun e w' => e = .returned (.string (keyK f)) ∧ Below w.heap.size w w' := by
  have HI := Lib.hid h
  have hm := h.max
  obtain rfl := h.len
  have HT := Lib.hid (Lib.tabBelow_of_tabIs hT)
  have HLk : Hid (∀ i, i ≤ f.length → (keyB (f.take i)).length ≤ 22 * 300 + 300) := Lib.hid (fun i hi => by
    have e1 := keyB_len (f := f.take i) (fun p hp => fm_isI' h p (List.mem_of_mem_take hp))
    have e2 := flat_le_take (f := f) i
    rw [List.length_take] at e1
    omega)
  have HLp : Hid (∀ i, i < f.length → ∀ j, (partB ((paAt f i).take j)).length ≤ 22 * 300) := Lib.hid (fun i hi j => by
    have e1 := partB_len (p := (paAt f i).take j) (fun n hn => fm_isI h hi n (List.mem_of_mem_take hn))
    have e2 : (paAt f i).length ≤ f.flatten.length := by rw [paAt_lt hi]; exact (List.sublist_flatten_of_mem (List.getElem_mem hi)).length_le
    rw [List.length_take] at e1
    omega)
  have HZ : Hid (∀ i, i < f.length → ∀ n ∈ paAt f i, IsI n) := Lib.hid (fun i hi => fm_isI h hi)
  clear h hT h1
  obtain ⟨i0, hi0, hz0, hz1, hz2⟩ := info_parts info_u8K
  go_enter Tryd.func8, Tryd.ntmps8
  go_wp2_with fail
  go_loopw [3, 10] (fun u v wr => ∃ i : Nat, i ≤ f.length ∧ v = .int .i64 i ∧ Hid (BRow wr w.heap.size u (keyB (f.take i))) ∧ Hid (Below w.heap.size w wr)) (fun _ v _ => f.length - (intOf v).toNat)
  case atStart => exact ⟨0, Nat.zero_le _, rfl, Lib.hid (BRow.nil _ _), Lib.hid (Below.refl _ _)⟩
  case round =>
    obtain ⟨i, hi, rfl, HR, HB⟩ := hrel
    by_cases hlt : i < f.length
    · have h11 : (0 : Int) ≤ (i : Int) := by omega
      have h12 : (i : Int) < (f.length : Int) := by omega
      obtain ⟨b1, o1, A1, c1, rfl, hb1, q1, hp1⟩ := HI.out.at i hlt
      have q1r := ((bcell HB.out).1 b1 _ hb1).trans q1
      have HK := Lib.hid (key_take hlt)
      have HKl := Lib.hid (HLk.out i hi)
      have HPl := Lib.hid (HLp.out i hlt)
      have HPz := Lib.hid (HZ.out i hlt)
      obtain ⟨p, hpe⟩ : ∃ p, paAt f i = p := ⟨_, rfl⟩
      rw [hpe] at q1r hp1 HK HPl HPz
      obtain ⟨kb, hkb⟩ : ∃ l, keyB (f.take i) = l := ⟨_, rfl⟩
      rw [hkb] at HK HR HKl
      have hpm := hp1.max
      have HP := Lib.hid hp1
      clear hpe hkb q1 hp1 hb1
      go_wp2_with fail
      go_loopw [3, 16] (fun u v wr => ∃ j : Nat, j ≤ p.length ∧ v = .int .i64 j ∧ Hid (BRow wr w.heap.size u (kb ++ partB (p.take j))) ∧ Hid (Below w.heap.size w wr)) (fun _ v _ => p.length - (intOf v).toNat)
      case atStart => exact ⟨0, Nat.zero_le _, rfl, by rw [show partB (p.take 0) = [] from rfl, List.append_nil]; exact HR, HB⟩
      case round =>
        clear HR HB q1r
        obtain ⟨j, hj, rfl, HR, HB⟩ := hrel
        by_cases hlt2 : j < p.length
        · have h21 : (0 : Int) ≤ (j : Int) := by omega
          have h22 : (j : Int) < (p.length : Int) := by omega
          obtain ⟨b2, o2, rfl, _, q2⟩ := (HP.out.next HB.out).at j hlt2
          have HJ := Lib.hid (part_take hlt2)
          have HYi : Hid (IsI (inAt p j)) := Lib.hid (by rw [inAt_lt hlt2]; exact HPz.out _ (List.getElem_mem hlt2))
          obtain ⟨y, hy⟩ : ∃ y, inAt p j = y := ⟨_, rfl⟩
          rw [hy] at q2 HJ HYi
          clear hy
          have HLj : Hid ((kb ++ partB (p.take j)).length ≤ 100000) := Lib.hid (by have a := HKl.out; have b := HPl.out j; rw [List.length_append]; omega)
          have HLy := Lib.hid (Lib.itoa_length_le y HYi.out.1 HYi.out.2)
          have HKj : Hid (kb ++ partB (p.take (j + 1)) = (kb ++ partB (p.take j) ++ Lib.itoa y) ++ [44]) := Lib.hid (by rw [HJ.out]; simp [List.append_assoc])
          obtain ⟨bs, hbs⟩ : ∃ l, kb ++ partB (p.take j) = l := ⟨_, rfl⟩
          rw [hbs] at HR HLj HKj
          clear hbs HJ
          go_wp2_with fail
          refine (lib_strconv_AppendInt_10 w.heap.size _ y HYi.out.1 HYi.out.2 _ _ wr HR.out HB.out.size (by have := HLj.out; omega) (HT.out.on HB.out)).mono ?_
          rintro e w3 ⟨v3, rfl, ho3, hb3, _⟩
          have HB3 := Lib.hid (HB.out.trans hb3)
          have HR3 : Hid (BRow w3 w.heap.size v3 (bs ++ Lib.itoa y)) := Lib.hid (BRow.add ho3)
          have hbl : (bs ++ Lib.itoa y).length ≤ 200000 := by have a := HLj.out; have b := HLy.out; rw [List.length_append]; omega
          obtain ⟨bt, hbt⟩ : ∃ l, bs ++ Lib.itoa y = l := ⟨_, rfl⟩
          rw [hbt] at HR3 HKj hbl
          have hs := HB3.out.size
          clear ho3 hb3 hbt q2
          go_wp2_with (first
            | (at_builtin
               refine wpList_append_own _ rfl _ _ _ rfl w.heap.size 5 i0 _ 1 1 Tryd.underlying36 hi0 hz0 hz1 hz2 rfl (by omega) v3 _ _ rfl (World.ownsRow.alloc HR3.out _) ⟨w3.heap.size, 0, none⟩ 1 1 [.int .u8 44] rfl rfl ?c1 ?c2 ?c3 ?c4 ?c5 ?_
               case c1 => exact (cell_one_new _ _ _)
               case c2 => simp [Value.oneCell']
               case c3 => unfold maxLen; omega
               case c4 => omega
               case c5 => simp; omega
               intro v' w4 hown4 hg4 _)
            | fail)
          refine ⟨⟨j + 1, by omega, by go_num, Lib.hid (by rw [HKj.out]; exact BRow.add (m := [44]) hown4), Lib.hid ((HB3.out.alloc hs _).grown hg4 (by simp; omega) (fun g hg => HR3.out.low g hg))⟩, by simp [intOf]; omega⟩
        · obtain rfl : j = p.length := by omega
          have HR3 : Hid (BRow wr w.heap.size u3 (kb ++ partB p)) := Lib.hid (by have h := HR.out; rwa [List.take_length] at h)
          have hbl : (kb ++ partB p).length ≤ 200000 := by have a := HKl.out; have b := HPl.out p.length; rw [List.take_length] at b; rw [List.length_append]; omega
          have HKj : Hid (keyB (f.take (i + 1)) = (kb ++ partB p) ++ [59]) := Lib.hid (by rw [HK.out, List.append_assoc])
          obtain ⟨bt, hbt⟩ : ∃ l, kb ++ partB p = l := ⟨_, rfl⟩
          rw [hbt] at HR3 HKj hbl
          have hs := HB.out.size
          clear hbt HR HK
          go_wp2_with (first
            | (at_builtin
               refine wpList_append_own _ rfl _ _ _ rfl w.heap.size 5 i0 _ 1 1 Tryd.underlying36 hi0 hz0 hz1 hz2 rfl (by omega) u3 _ _ rfl (World.ownsRow.alloc HR3.out _) ⟨wr.heap.size, 0, none⟩ 1 1 [.int .u8 59] rfl rfl ?c1 ?c2 ?c3 ?c4 ?c5 ?_
               case c1 => exact (cell_one_new _ _ _)
               case c2 => simp [Value.oneCell']
               case c3 => unfold maxLen; omega
               case c4 => omega
               case c5 => simp; omega
               intro v' w4 hown4 hg4 _)
            | fail)
          refine ⟨⟨i + 1, by omega, by go_num, Lib.hid (by rw [HKj.out]; exact BRow.add (m := [59]) hown4), Lib.hid ((HB.out.alloc hs _).grown hg4 (by simp; omega) (fun g hg => HR3.out.low g hg))⟩, by simp [intOf]; omega⟩
    · obtain rfl : i = f.length := by omega
      have hcv := HR.out.text
      rw [List.take_length] at hcv
      have HB' := HB
      go_wp2_with fail
      go_ret
      exact ⟨rfl, HB.out⟩

theorem keySpec : KeySpec keyK where
  awake := fAwake
  same := fSame
  key := fKey
  inj := keyK_inj

end Go.Proofs.YtehokjaojanieaaDoor
