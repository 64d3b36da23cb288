/- macro.expand. -/
import Derived.Test.YtkbfoelffeocmaaMd
import Derived.Test.YtkbfoelffeocmaaMacName
import Derived.Test.YtkbfoelffeocmaaDefRow
import Derived.Test.YtkbfoelffeocmaaMb
namespace Go.Proofs.Ytkbfoelffeocmaa
open Go.RowKit
set_option linter.unusedSimpArgs false
set_option linter.unusedVariables false

/-- What each macro stands for, as it is answered. -/
def DefsOut (ms : List (ByteArray × ByteArray)) (w0 : World) (F : ByteArray → Tr) (w' : World) (v : Value) : Prop :=
  ∃ g B ts, v = .slice (some ⟨g, 0, none⟩) ms.length ms.length ∧ w0.heap.size ≤ g ∧ g < w'.heap.size ∧ DefRow w' g ms.length B (fun j => (atM ms j).1) ts ∧ ∀ j, j < ms.length → (ts j).strip 40 = F (atM ms j).1
def ExpPost (ms : List (ByteArray × ByteArray)) (w : World) (e : Ending) (w' : World) : Prop :=
  Below w.heap.size w w' ∧
    ((∃ v F, e = .returned (.tuple #[v, .int .i64 0, .int .i64 0, .int .i64 0]) ∧ Sol ms F ∧ (∀ G, Sol ms G → ∀ m ∈ ms, F m.1 = G m.1) ∧ (∀ nm k, massS k (F nm) ≤ 1000) ∧ DefsOut ms w F w' v) ∨
     (∃ (i : Nat) (p q : Int), e = .returned (.tuple #[.slice none 0 0, .int .i64 i, .int .i64 p, .int .i64 q]) ∧ i < ms.length ∧ (q = 2 ∨ q = 8 ∨ q = 9) ∧ ∀ G, ¬ Sol ms G))
/-- Names up to i. -/
def nmTo (ms : List (ByteArray × ByteArray)) (i j : Nat) : ByteArray := if j < i then (atM ms j).1 else { data := #[] }
def putD (w : World) (g i : Nat) (t : Tr) : World := w.setCells g (i * 10 + 1) t.cs.toArray.toList
theorem putD_only (w : World) (g i : Nat) (t : Tr) : Only g w (putD w g i t) := (Only.refl g w).cells _ _
/-- No text is longer than this. -/
def SmallM (ms : List (ByteArray × ByteArray)) : Prop := ∀ j, j < ms.length → (atM ms j).2.size ≤ 3000

set_option maxRecDepth 100000 in
set_option maxHeartbeats 8000000 in
theorem mExpandIn (ms : List (ByteArray × ByteArray)) (hg : Good ms) (A : Option Addr) (n c : Nat) (w : World) (hm : MacsAt w (.slice A n c) ms) (hsh : ShortM ms) (hsm : SmallM ms) :
    Calls Try.prog 11 #[.slice A n c, .agg (mCells (mat0 ms))] w (ExpPost ms w) := by
  obtain rfl := hm.len
  have hn20 := hg.few
  have hmk := make_def ms.length (by omega)
  have hmb := make_dn ms.length (by omega)
  obtain ⟨w1, hw1⟩ : ∃ w1, w1 = w.alloc (.cells (mCells (mat0 ms)) 45) := ⟨_, rfl⟩
  have hsz1 : w1.heap.size = w.heap.size + 1 := by rw [hw1]; simp
  have HA1 : Hid (At w1 w.heap.size 45 (mCells (mat0 ms))) := Lib.hid (by rw [hw1]; exact At.new _ _ _)
  have HB1 : Hid (Below w.heap.size w w1) := Lib.hid (by rw [hw1]; exact (Below.refl _ _).alloc (Nat.le_refl _) _)
  have HM := Lib.hid hm
  have HG := Lib.hid hg
  have HSH := Lib.hid hsh
  have HSM := Lib.hid hsm
  have HW1 := Lib.hid hw1
  have HSZ := Lib.hid hsz1
  clear hw1 hm hg hsh hsm hsz1
  go_enter Try.func11, Try.ntmps11
  go_wp2_with fail
  rw [← HW1.out]
  clear hmk
  obtain ⟨w2, hw2⟩ : ∃ w2, w2 = w1.alloc (.cells (madeCells defZero (ms.length * 10)) 36) := ⟨_, rfl⟩
  have HA2 : Hid (At w2 w.heap.size 45 (mCells (mat0 ms))) := Lib.hid (by rw [hw2]; exact HA1.out.alloc _)
  have HB2 : Hid (Below w.heap.size w w2) := Lib.hid (by rw [hw2]; exact HB1.out.alloc HB1.out.size _)
  have HD2 : ∀ B, DefRow w2 (w.heap.size + 1) ms.length B (fun _ => { data := #[] }) (fun _ => Tr.blank) := fun B => by rw [hw2, ← HSZ.out]; exact made_defs w1 ms.length B
  have HL2 : Hid (w.heap.size + 1 < w2.heap.size) := Lib.hid (by rw [hw2]; simp; have := HSZ.out; omega)
  have HDD := Lib.hid HD2
  rw [← hw2]
  clear hw2 HD2
  go_loopw [21] (fun i wr => ∃ (j : Nat), j ≤ ms.length ∧ i = .int .i64 j ∧ Hid (∀ B, w.heap.size + 1 < B → DefRow wr (w.heap.size + 1) ms.length B (nmTo ms j) (fun _ => Tr.blank)) ∧ Hid (At wr w.heap.size 45 (mCells (mat0 ms))) ∧ Hid (w.heap.size + 1 < wr.heap.size) ∧ Hid (Below w.heap.size w wr)) (fun i _ => ms.length - (intOf i).toNat)
  case atStart => exact ⟨0, Nat.zero_le _, rfl, Lib.hid (fun B _ => HDD.out B), HA2, HL2, HB2⟩
  case round =>
    clear HA2 HB2 HDD HL2 HA1 HB1 HW1 HSZ
    obtain ⟨j, hj, rfl, HD, HA, HL, HB⟩ := hrel
    by_cases hjl : j < ms.length
    · have hjz : (0 : Int) ≤ (j : Int) := by omega
      have hjn : (j : Int) < (ms.length : Int) := by omega
      obtain ⟨A', cap, e1, _, h3⟩ := (HM.out.next HB.out)
      injection e1 with e1 _ e3
      subst e1
      subst e3
      obtain ⟨b, off, rfl, hb, hr⟩ := h3 (by omega)
      have HRj := Lib.hid (hr j hjl)
      have HS1 := Lib.hid (HSH.out j hjl).1
      have HNM : Hid ((fun k => if k = j then (atM ms j).1 else nmTo ms j k) = nmTo ms (j + 1)) := Lib.hid (by
        funext k
        unfold nmTo
        by_cases e : k = j
        · subst e; rw [if_pos rfl, if_pos (by omega)]
        · rw [if_neg e]
          by_cases h : k < j
          · rw [if_pos h, if_pos (by omega)]
          · rw [if_neg h, if_neg (by omega)])
      generalize atM ms j = m at HRj HS1 HNM
      clear hr h3 hb
      have hbx := boxM_next wr m
      have HBx := Lib.hid (boxM_at wr m)
      have HBb := Lib.hid (HB.out.trans (hbx.mono HB.out.size))
      have HAb := Lib.hid (At.below HA.out hbx HA.out.lt)
      have HDb : Hid (∀ B, w.heap.size + 1 < B → DefRow (boxM wr m) (w.heap.size + 1) ms.length B (nmTo ms j) (fun _ => Tr.blank)) := Lib.hid (fun B hB => (HD.out B hB).next HL.out hbx)
      have HLb : Hid (w.heap.size + 1 < (boxM wr m).heap.size) := Lib.hid (Nat.lt_of_lt_of_le HL.out hbx.size)
      have hone := macCs_one m
      have cn := HBx.out.cell 0
      rw [show (macCs m).toArray[0]? = some (.string m.1) from rfl] at cn
      clear hbx
      go_wp2_with (first
        | (refine wpList_load_mid rfl 40 _ rfl b (off + j * 2) rfl (macCs m) _ HRj.out Try.underlying40 rfl (by kernel_rfl) ?_)
        | (with_reducible show wpList _ _ _ ({ dst := none, op := .store _ _ _, type := _, pos := _, after := _, guard := _ } :: _) _ _
           refine wpList_store_row rfl 40 _ _ rfl wr.heap.size (macCs m).toArray rfl rfl 40 #[.string { data := #[] }, .string { data := #[] }] (At.new _ _ _) (by kernel_rfl) rfl hone ?_
           change Exit.then _ _ _ _ (boxM wr m))
        | fail)
      refine (textClone m.1 (boxM wr m) (by have := HS1.out; omega)).mono ?_
      rintro e w4 ⟨rfl, hb4⟩
      have HB4 := Lib.hid (HBb.out.trans (hb4.mono HBb.out.size))
      have HA4 := Lib.hid (At.below HAb.out hb4 HAb.out.lt)
      have HD4 : Hid (∀ B, w.heap.size + 1 < B → DefRow w4 (w.heap.size + 1) ms.length B (nmTo ms j) (fun _ => Tr.blank)) := Lib.hid (fun B hB => (HDb.out B hB).next HLb.out hb4)
      have HL4 : Hid (w.heap.size + 1 < w4.heap.size) := Lib.hid (Nat.lt_of_lt_of_le HLb.out hb4.size)
      have q0 : w4.cell? ⟨w.heap.size + 1, j * 10, none⟩ = some (.string (nmTo ms j j)) := (HD4.out (w.heap.size + 2) (by omega)).names j hjl 0 _ rfl
      have f0 : w4.frozen? ⟨w.heap.size + 1, j * 10, none⟩ = false := ((HD4.out (w.heap.size + 2) (by omega)).there j hjl 0 (by omega)).2
      have HD5 : Hid (∀ B, w.heap.size + 1 < B → DefRow (w4.setCell ⟨w.heap.size + 1, j * 10, none⟩ (.string m.1)) (w.heap.size + 1) ms.length B (nmTo ms (j + 1)) (fun _ => Tr.blank)) := Lib.hid (fun B hB => by
        have h := (HD4.out B hB).putName hB hjl m.1
        rw [HNM.out] at h
        exact h)
      have HA5 : Hid (At (w4.setCell ⟨w.heap.size + 1, j * 10, none⟩ (.string m.1)) w.heap.size 45 (mCells (mat0 ms))) := Lib.hid (HA4.out.other (p := ⟨w.heap.size + 1, j * 10, none⟩) (by dsimp only; omega) _)
      have HL5 : Hid (w.heap.size + 1 < (w4.setCell ⟨w.heap.size + 1, j * 10, none⟩ (.string m.1)).heap.size) := Lib.hid (by simpa [World.setCell] using HL4.out)
      have HB5 : Hid (Below w.heap.size w (w4.setCell ⟨w.heap.size + 1, j * 10, none⟩ (.string m.1))) := Lib.hid (HB4.out.setCell (p := ⟨w.heap.size + 1, j * 10, none⟩) (by dsimp only; omega) _)
      clear hb4 cn
      go_wp2_with fail
      exact ⟨⟨j + 1, by omega, by go_num, HD5, HA5, HL5, HB5⟩, by simp [intOf]; omega⟩
    · obtain rfl : j = ms.length := by omega
      go_wp2_with fail
      clear hmb
      obtain ⟨w5, hw5⟩ : ∃ w5, w5 = wr.alloc (.cells (dnRow (fun _ => false) ms.length) 4) := ⟨_, rfl⟩
      obtain ⟨g2, hg2⟩ : ∃ g2, g2 = wr.heap.size := ⟨_, rfl⟩
      have HN5 : Hid (At w5 g2 4 (dnRow (fun _ => false) ms.length)) := Lib.hid (by rw [hw5, hg2]; exact At.new _ _ _)
      have HA5 : Hid (At w5 w.heap.size 45 (mCells (mat0 ms))) := Lib.hid (by rw [hw5]; exact HA.out.alloc _)
      have HG2 : Hid (w.heap.size + 1 < g2) := Lib.hid (by rw [hg2]; exact HL.out)
      have hbn : Below wr.heap.size wr w5 := by rw [hw5]; exact (Below.refl _ _).alloc (Nat.le_refl _) _
      have HB5 : Hid (Below w.heap.size w w5) := Lib.hid (HB.out.trans (hbn.mono HB.out.size))
      have hnmt : ∀ j, j < ms.length → nmTo ms ms.length j = (atM ms j).1 := fun j hj => by unfold nmTo; rw [if_pos hj]
      have HD5 : Hid (DefRow w5 (w.heap.size + 1) ms.length (g2 + 1) (fun j => (atM ms j).1) (fun _ => Tr.blank)) := Lib.hid (by
        have h := (HD.out (g2 + 1) (by have := HG2.out; omega)).next HL.out hbn
        exact ⟨fun j hj => by rw [← hnmt j hj]; exact h.names j hj, h.trees, h.there, h.ins⟩)
      have HST : Hid (SolTo ms (fun _ => false) (fun _ => Tr.blank)) := Lib.hid (SolTo.start ms)
      have HCN : Hid (cntB (fun _ => false) ms.length = 0) := Lib.hid (cntB_zero _)
      have HBL : Hid (∀ j, j < ms.length → (Tr.blank).strip 40 = Tr.blank) := Lib.hid (fun _ _ => rfl)
      rw [← hw5, ← hg2]
      clear hw5 hg2 hbn hnmt HD HA HL HB
      go_loopw [39] (fun i wr => ∃ (r : Nat) (dn : Nat → Bool) (F : ByteArray → Tr) (ts : Nat → Tr), r ≤ ms.length ∧ i = .int .i64 r ∧ Hid (SolTo ms dn F) ∧ Hid (cntB dn ms.length = r) ∧ Hid (∀ j, j < ms.length → (ts j).strip 40 = F (atM ms j).1) ∧ Hid (DefRow wr (w.heap.size + 1) ms.length (g2 + 1) (fun j => (atM ms j).1) ts) ∧ Hid (At wr g2 4 (dnRow dn ms.length)) ∧ Hid (At wr w.heap.size 45 (mCells (mat0 ms))) ∧ Hid (Below w.heap.size w wr)) (fun i _ => ms.length - (intOf i).toNat)
      case atStart => exact ⟨0, fun _ => false, fun _ => Tr.blank, fun _ => Tr.blank, Nat.zero_le _, rfl, HST, HCN, HBL, HD5, HN5, HA5, HB5⟩
      case round =>
        clear HST HCN HBL HD5 HN5 HA5 HB5
        obtain ⟨r, dn, F, ts, hr, rfl, HST, HCN, HTF, HD, HN, HA, HB⟩ := hrel
        by_cases hrl : r < ms.length
        · have hrz : (0 : Int) ≤ (r : Int) := by omega
          have hrn : (r : Int) < (ms.length : Int) := by omega
          obtain ⟨j0, hj0, hd0⟩ := cntB_lt dn ms.length (by rw [HCN.out]; exact hrl)
          obtain ⟨i, _, hil, hmay, hnx⟩ := nextF_some ms dn ms.length 0 (by
            obtain ⟨i, h1, h2⟩ := may_one HG.out hj0 hd0
            exact ⟨i, Nat.zero_le _, by omega, h2⟩)
          have hil' : i < ms.length := by omega
          have HMY := Lib.hid (mayS_iff.1 hmay)
          have HNX := Lib.hid hnx
          have HBo := Lib.hid (dn_bools HN.out ms.length)
          clear hj0 hd0 hmay hnx j0 hil
          go_wp2_with (first
            | (refine wpList_load_row rfl 45 _ rfl w.heap.size rfl 45 (mCells (mat0 ms)) (0, 0) _ HA.out Try.underlying45 rfl (by rw [mCells_size]; kernel_rfl) ?_)
            | fail)
          refine (mNext ms dn _ hn20 wr HBo.out).mono ?_
          rintro e w6 ⟨rfl, hb6⟩
          rw [HNX.out]
          have HB6 := Lib.hid (HB.out.trans (hb6.mono HB.out.size))
          have HA6 := Lib.hid (At.below HA.out hb6 HA.out.lt)
          have HN6 := Lib.hid (At.below HN.out hb6 HN.out.lt)
          have HD6 := Lib.hid (HD.out.next (by have := HN.out.lt; have := HG2.out; omega) hb6)
          have hiz : (0 : Int) ≤ (i : Int) := by omega
          have hin : (i : Int) < (ms.length : Int) := by omega
          obtain ⟨A', cap, e1, _, h3⟩ := (HM.out.next HB6.out)
          injection e1 with e1 _ e3
          subst e1
          subst e3
          obtain ⟨b, off, rfl, hb, hrr⟩ := h3 (by omega)
          have hc1 := hrr i hil' 1 _ rfl
          have HS1 := Lib.hid (HSH.out i hil').2
          have HS2 := Lib.hid (HSM.out i hil')
          have hlt6 : w.heap.size + 1 < w6.heap.size := by have := HN6.out.lt; have := HG2.out; omega
          have HDF := Lib.hid (HD6.out.defs hlt6 hn20 HTF.out ms.length)
          have HLT := Lib.hid hlt6
          clear hb6 hrr h3 hb hlt6
          go_wp2_with fail
          have hmass : (pS (atM ms i).2 (dsOf ms F)).2.flt = 0 → ∀ k, massS k (pS (atM ms i).2 (dsOf ms F)).1 ≤ 4000000 := fun q k => by
            have h1 := pS_mass (ds_mass (ms := ms) HST.out.mass) (by omega) q k
            have h2 := Nat.mul_le_mul_left 1000 HS2.out
            omega
          refine (tParse (atM ms i).2 HS1.out (some ⟨w.heap.size + 1, 0, none⟩) ms.length ms.length (dsOf ms F) w6 HDF.out hmass).mono ?_
          rintro e w7 ⟨t, p, q, rfl, hb7, hpp⟩
          have HB7 := Lib.hid (HB6.out.trans (hb7.mono HB6.out.size))
          have HA7 := Lib.hid (At.below HA6.out hb7 HA6.out.lt)
          have HN7 := Lib.hid (At.below HN6.out hb7 HN6.out.lt)
          have HD7 := Lib.hid (HD6.out.next HLT.out hb7)
          have hbx := boxW_next w7 t
          have HX8 := Lib.hid (boxW_at w7 t)
          have HB8 := Lib.hid (HB7.out.trans (hbx.mono HB7.out.size))
          have HA8 := Lib.hid (At.below HA7.out hbx HA7.out.lt)
          have HN8 := Lib.hid (At.below HN7.out hbx HN7.out.lt)
          have HD8 := Lib.hid (HD7.out.next (Nat.lt_of_lt_of_le HLT.out hb7.size) hbx)
          have HLN : Hid (g2 < w6.heap.size) := Lib.hid HN6.out.lt
          have honeT := Tr.one t
          have HAI := Lib.hid (allIn_of (F := F) (HG.out.words _ (atM_mem hil')).2)
          have HWZ := Lib.hid (HG.out.words _ (atM_mem hil')).1
          rcases hpp with ⟨hq, rfl, hpe⟩ | ⟨rfl, rfl, _, hfl, hfm, hti, htf, hts⟩
          · have hqb := (int_ne hq).2
            have HQ : Hid ((q = 2 ∨ q = 8 ∨ q = 9) ∧ ¬ OkS (atM ms i).2 (dsOf ms F)) := Lib.hid (by
              rcases hpe with ⟨h, _⟩ | ⟨_, h1, _, h2⟩ | ⟨_, h1, h2, _, h3⟩
              · exact absurd HWZ.out h
              · rcases pS_two HAI.out with h3 | h3 | h3
                · exact absurd h3 h1
                · exact ⟨Or.inl (h2.trans h3), fun x => h1 x.1⟩
                · exact ⟨Or.inr (Or.inl (h2.trans h3)), fun x => h1 x.1⟩
              · refine ⟨?_, fun x => h2 x.2⟩
                rcases h3 with h3 | h3 | h3
                · exact Or.inr (Or.inl h3)
                · exact Or.inr (Or.inr h3)
                · exact Or.inl h3)
            have HNO := Lib.hid (HST.out.fail HG.out hil' HMY.out.2 HQ.out.2)
            clear hb7 hq hpe hbx hmass hc1
            go_wp2_with (first
              | (with_reducible show wpList _ _ _ ({ dst := none, op := .store _ _ _, type := _, pos := _, after := _, guard := _ } :: _) _ _
                 refine wpList_store_row rfl 34 _ _ rfl w7.heap.size Tr.blank.cs.toArray rfl rfl 34 Tr.blank.cs.toArray (At.new _ _ _) (by kernel_rfl) rfl honeT ?_
                 first | change wpList _ _ _ _ _ (boxW w7 Tr.blank) | change Exit.then _ _ _ _ (boxW w7 Tr.blank))
              | fail)
            exact bodyPost_ret (v := .tuple #[.slice none 0 0, .int .i64 i, .int .i64 p, .int .i64 q]) (by simp [results, Try.results11, go_sem]) rfl ⟨HB8.out, Or.inr ⟨i, p, q, rfl, hil', HQ.out.1, HNO.out⟩⟩
          · have HOK : Hid (OkS (atM ms i).2 (dsOf ms F)) := Lib.hid ⟨hfl, hfm⟩
            have HST9 := Lib.hid (HST.out.step HG.out hil' HMY.out.1 HMY.out.2 HOK.out)
            have HCN9 : Hid (cntB (setB dn i) ms.length = r + 1) := Lib.hid (by rw [cntB_set dn i HMY.out.1 ms.length hil', HCN.out])
            have HTI8 := Lib.hid (hti.next hbx)
            have HTF8 := Lib.hid (htf.lower (show g2 + 1 ≤ w6.heap.size from HLN.out))
            have ho := putD_only (boxW w7 t) (w.heap.size + 1) i t
            have hgg : w.heap.size + 1 < g2 := HG2.out
            have HD9 : Hid (DefRow (putD (boxW w7 t) (w.heap.size + 1) i t) (w.heap.size + 1) ms.length (g2 + 1) (fun j => (atM ms j).1) (fun j => if j = i then t else ts j)) := Lib.hid (by
              have h := HD8.out.putTree (by omega) hil' HTI8.out HTF8.out
              exact h)
            have HN9 := Lib.hid (ho.at HN8.out (by omega))
            have HA9 := Lib.hid (ho.at HA8.out (by omega))
            have HB9 := Lib.hid (HB8.out.trans (ho.below (Nat.le_succ _)))
            have HTS9 : Hid (∀ j, j < ms.length → (if j = i then t else ts j).strip 40 = setF F (atM ms i).1 (vS (atM ms i).2 (dsOf ms F)) (atM ms j).1) := Lib.hid (fun j hj => by
              unfold setF
              by_cases e : j = i
              · subst e; rw [if_pos rfl, if_pos rfl]; exact hts
              · rw [if_neg e, if_neg (fun q => e (nodup_at HG.out.nodup hj hil' q))]; exact HTF.out j hj)
            have hth : (boxW w7 t).there (w.heap.size + 1) (i * 10 + 1) t.cs.toArray.size := HD8.out.thereTree hil'
            have qb : (putD (boxW w7 t) (w.heap.size + 1) i t).cell? ⟨g2, i, none⟩ = some (.bool (dn i)) := by rw [HN9.out.cell]; exact arr_get _ _ _ hil'
            have fb := HN9.out.free i
            have HN10 := HN9.out.set i (.bool true)
            rw [dnRow_set] at HN10
            have HN10 := Lib.hid HN10
            have HD10 := Lib.hid (HD9.out.only (g' := g2) ((Only.refl g2 _).cells i [.bool true]) (by omega) (Nat.lt_succ_self _))
            have HA10 := Lib.hid (HA9.out.other (p := ⟨g2, i, none⟩) (by dsimp only; omega) (.bool true))
            have HB10 := Lib.hid (HB9.out.setCell (p := ⟨g2, i, none⟩) (by dsimp only; omega) (.bool true))
            clear hb7 hfl hfm hti htf hts hbx hmass hc1 ho hgg
            go_wp2_with (first
              | (with_reducible show wpList _ _ _ ({ dst := none, op := .store _ (.tmp 13) _, type := _, pos := _, after := _, guard := _ } :: _) _ _
                 refine wpList_store_row rfl 34 _ _ rfl w7.heap.size t.cs.toArray rfl rfl 34 Tr.blank.cs.toArray (At.new _ _ _) (by kernel_rfl) rfl honeT ?_
                 first | change wpList _ _ _ _ _ (boxW w7 t) | change Exit.then _ _ _ _ (boxW w7 t))
              | (with_reducible show wpList _ _ _ ({ dst := some 62, op := .load _ _, type := _, pos := _, after := _, guard := _ } :: _) _ _
                 refine wpList_load_row rfl 34 _ rfl w7.heap.size rfl 34 t.cs.toArray (0, 0) _ HX8.out Try.underlying34 rfl (by kernel_rfl) ?_)
              | (with_reducible show wpList _ _ _ ({ dst := none, op := .store _ (.tmp 64) _, type := _, pos := _, after := _, guard := _ } :: _) _ _
                 refine wpList_store_mid rfl 34 _ _ rfl (w.heap.size + 1) (i * 10 + 1) t.cs.toArray rfl rfl hth (by kernel_rfl) honeT ?_
                 change Exit.then _ _ _ _ (putD (boxW w7 t) (w.heap.size + 1) i t))
              | fail)
            exact ⟨⟨r + 1, setB dn i, setF F (atM ms i).1 (vS (atM ms i).2 (dsOf ms F)), fun j => if j = i then t else ts j, by omega, by go_num, HST9, HCN9, HTS9, HD10, HN10, HA10, HB10⟩, by simp [intOf]; omega⟩
        · obtain rfl : r = ms.length := by omega
          have HDN := Lib.hid (HST.out.done (cntB_all dn ms.length HCN.out))
          go_wp2_with fail
          exact bodyPost_ret (v := .tuple #[.slice (some ⟨w.heap.size + 1, 0, none⟩) ms.length ms.length, .int .i64 0, .int .i64 0, .int .i64 0]) (by simp [results, Try.results11, go_sem]) rfl ⟨HB.out, Or.inl ⟨_, F, rfl, HDN.out.1, HDN.out.2, HST.out.mass, w.heap.size + 1, g2 + 1, ts, rfl, Nat.le_succ _, by have := HN.out.lt; have := HG2.out; omega, HD.out, HTF.out⟩⟩

end Go.Proofs.Ytkbfoelffeocmaa
