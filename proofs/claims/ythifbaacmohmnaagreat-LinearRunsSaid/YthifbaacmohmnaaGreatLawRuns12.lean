/- bolterlaw12.LinearRuns, by what a package of what is left does. -/
import Derived.Test.YthifbaacmohmnaaGreatMal
import Derived.Test.YthifbaacmohmnaaGreatNodeSpans
namespace Go.Proofs.YthifbaacmohmnaaGreat
open Go.RowKit
set_option linter.unusedSimpArgs false
set_option linter.unusedVariables false

theorem OffF.cellO {F : Nat → Prop} {w w' : World} (ho : OffF F w w') {b o : Nat} (hlt : b < w.heap.size) (hn : ¬ F b) : w'.cell? ⟨b, o, none⟩ = w.cell? ⟨b, o, none⟩ := by
  unfold World.cell?
  rw [ho.block b hlt hn]
theorem spansO (nm : List Nd) (l bits : List Nat) (A7 A B : Option Addr) (c7 ca cb n N i : Nat) (hn : n = l.length) (hN : N = n + 1) (h100 : n ≤ 100) (hnm : nm.length ≤ 100000) (hok : ∀ j, j < nm.length → NdOk (ndAt nm j) j) (hi : i < nm.length) (w0 : World)
    (hv : NdsAt w0 (.slice A7 nm.length c7) nm) (hb : IsBytes w0 A n l) (hbits : IsBytes w0 B N bits) :
    Calls Tryz.prog 11 #[.slice A7 nm.length c7, .slice A n ca, .slice B N cb] w0 fun e w' => ∃ g m cap ga ra, e = .returned (.slice (some ⟨g, 0, none⟩) m cap) ∧ i < m ∧ w'.cell? ⟨g, i, none⟩ = some (.slice (some ⟨ga, 0, none⟩) N N) ∧ TabAt w' 41 4 w0.heap.size ga N ra (nodeT l bits nm i) ∧ g < w'.heap.size ∧ Below w0.heap.size w0 w' := by
  subst hn
  refine (refNodeSpans nm l bits _ A B ca cb N hN h100 (by omega) hok w0 hv hb hbits).mono ?_
  rintro e w' ⟨v, ts, rfl, hts, hbl⟩
  have hlen := hts.len
  rw [nodesF_length] at hlen
  obtain ⟨g, cap, rfl, _, hg⟩ := hts.form (by omega)
  have h1 : i < ts.length := by omega
  have h2 : i < (nodesF l bits nm nm.length).length := by rw [nodesF_length]; exact hi
  have ht := hts.tab i h1 h2
  have hc := hts.cell i h1
  have e : nodeT l bits nm i = (nodesF l bits nm nm.length)[i] := by unfold nodeT fAt; rw [Int.toNat_natCast, List.getElem?_eq_getElem h2]; rfl
  rw [← e] at ht
  exact ⟨g, _, cap, _, _, rfl, h1, hc, ht, hg, hbl⟩
/-- The first row of a table, at two blocks between lo and hi; and what is read there. -/
structure RowT (w : World) (lo hi ga N : Nat) (T : Nat → Bool) : Prop where
  big : hi ≤ w.heap.size
  ex : ∃ r, (lo ≤ ga ∧ ga < hi) ∧ (lo ≤ r ∧ r < hi) ∧ w.cell? ⟨ga, 0, none⟩ = some (.slice (some ⟨r, 0, none⟩) N N) ∧ ∀ j, j < N → w.cell? ⟨r, j, none⟩ = some (.bool (T j))
theorem TabAt.rowT {w : World} {base lo ga N : Nat} {ra : Nat → Nat} {f : Nat → Nat → Bool} (h : TabAt w 41 4 base ga N ra f) (h0 : 0 < N) (hl : lo ≤ base) : RowT w lo w.heap.size ga N (f 0) :=
  ⟨Nat.le_refl _, ra 0, ⟨Nat.le_trans hl h.low, h.top.lt⟩, ⟨Nat.le_trans hl (h.rlow 0 h0).1, (h.row 0 h0).lt⟩, h.cellTop h0, fun j hj => h.cellRow h0 hj⟩
theorem RowT.off {w w' : World} {lo hi ga N : Nat} {T : Nat → Bool} {F : Nat → Prop} (h : RowT w lo hi ga N T) (ho : OffF F w w') (hF : ∀ b, F b → b < lo ∨ hi ≤ b) : RowT w' lo hi ga N T := by
  obtain ⟨r, a1, a2, a5, a6⟩ := h.ex
  have hb := h.big
  have n1 : ¬ F ga := fun q => by have := hF ga q; omega
  have n2 : ¬ F r := fun q => by have := hF r q; omega
  exact ⟨Nat.le_trans hb ho.size, r, a1, a2, (ho.cellO (by omega) n1).trans a5, fun j hj => (ho.cellO (by omega) n2).trans (a6 j hj)⟩
theorem RowT.next {w w' : World} {lo hi ga N : Nat} {T : Nat → Bool} (h : RowT w lo hi ga N T) (hb : Below w.heap.size w w') : RowT w' lo hi ga N T := h.off (F := fun _ => False) (OffF.of hb) (fun b q => q.elim)
theorem IsBytes.offO {F : Nat → Prop} {w w' : World} {A : Option Addr} {n : Nat} {l : List Nat} (h : IsBytes w A n l) (ho : OffF F w w') (hn : ∀ b o, A = some ⟨b, o, none⟩ → b < w.heap.size → ¬ F b) : IsBytes w' A n l :=
  ⟨h.1, h.2.1, h.2.2.1, fun h0 => by
    obtain ⟨b, off, e, hlt, hc⟩ := h.2.2.2 h0
    exact ⟨b, off, e, Nat.lt_of_lt_of_le hlt ho.size, fun k hk => (ho.cellO hlt (hn b off e hlt)).trans (hc k hk)⟩⟩
theorem bytes_at {w : World} {A : Option Addr} {n : Nat} {l : List Nat} (h : IsBytes w A n l) {k : Nat} (hk : k < n) : ∃ b off, A = some ⟨b, off, none⟩ ∧ b < w.heap.size ∧ w.cell? ⟨b, off + k, none⟩ = some (.int .u8 ((l[k]?).getD 0 : Nat)) ∧ (l[k]?).getD 0 < 256 := by
  obtain ⟨h1, _, h2, h3⟩ := h
  obtain ⟨b, off, e, hlt, hc⟩ := h3 (by omega)
  have hl : k < l.length := by omega
  have ee : (l[k]?).getD 0 = l[k] := by rw [List.getElem?_eq_getElem hl]; rfl
  exact ⟨b, off, e, hlt, by rw [ee]; exact hc k hl, by rw [ee]; exact h2 k hl⟩
/-- Where a run stands: ahead of place j. -/
structure RunAt (AA : World → Value → List Nd → (Nat → Prop) → Prop) (Good : List Nd → Fm → Prop) (W : World) (a : Value) (l bits : List Nat) (T : Nat → Bool) (lo hi ga gb N : Nat) (w : World) (ns : List Nd) (F : Nat → Prop) : Prop where
  aa : AA w a ns F
  own : ∀ b, F b → W.heap.size ≤ b
  out : ∀ b, F b → b < lo ∨ hi ≤ b
  below : Below W.heap.size W w
  row : RowT w lo hi ga N T
  bits : IsBytes w (some ⟨gb, 0, none⟩) N bits
  low : lo ≤ gb ∧ gb < hi
section
variable {AA : World → Value → List Nd → (Nat → Prop) → Prop} {Good : List Nd → Fm → Prop} {W w w' : World} {a : Value} {l bits : List Nat} {T : Nat → Bool} {lo hi ga gb N : Nat} {ns : List Nd} {F : Nat → Prop}
theorem RunAt.below' (S : ArenaBig AA) (h : RunAt AA Good W a l bits T lo hi ga gb N w ns F) (hb : Below w.heap.size w w') : RunAt AA Good W a l bits T lo hi ga gb N w' ns F :=
  ⟨S.next h.aa hb, h.own, h.out, h.below.trans (hb.mono h.below.size), h.row.next hb, h.bits.below hb, h.low⟩
theorem RunAt.off (h : RunAt AA Good W a l bits T lo hi ga gb N w ns F) {more : List Nd} {F' : Nat → Prop} (hA : AA w' a (ns ++ more) F') (hF : ∀ b, F' b → F b ∨ w.heap.size ≤ b) (ho : OffF F w w') : RunAt AA Good W a l bits T lo hi ga gb N w' (ns ++ more) F' where
  aa := hA
  own := fun b q => by
    rcases hF b q with q | q
    · exact h.own b q
    · exact Nat.le_trans h.below.size q
  out := fun b q => by
    rcases hF b q with q | q
    · exact h.out b q
    · exact Or.inr (Nat.le_trans h.row.big q)
  below := h.below.trans (ho.below h.own h.below.size)
  row := h.row.off ho h.out
  bits := h.bits.offO ho (fun b o e hb q => by
    injection e with e
    injection e with e _ _
    subst e
    have := h.out _ q
    have := h.low
    omega)
  low := h.low
end

set_option maxRecDepth 100000 in
set_option maxHeartbeats 32000000 in
theorem lawRuns12 {AA : World → Value → List Nd → (Nat → Prop) → Prop} {Good : List Nd → Fm → Prop} (S : ArenaBig AA) (L : LinSpec AA Good) (ls : List Nd) (v0 : Value) (id : Int) (A B : Option Addr) (n m ca cb : Nat) (l sn : List Nat) (w : World) (hv : NdsAt w v0 ls) (hf : ∀ j, j < ls.length → NdFit (ndAt ls j)) (hid : I64 id) (hb : IsBytes w A n l) (hs : IsBytes w B m sn) :
    Calls Tryz.prog 3 #[v0, .int .i64 id, .slice A n ca, .slice B m cb] w fun e w' => e = .returned (.bool true) ∧ Below w.heap.size w w' := by
  have HV := Lib.hid hv
  have h63 : ls.length ≤ 9223372036854775807 := hv.choose_spec.choose_spec.2.1
  obtain ⟨A0, c0, rfl, _, _⟩ := HV.out
  have HF := Lib.hid hf
  have HI := Lib.hid hid
  have HBy := Lib.hid hb
  have HSn := Lib.hid hs
  have HLn := Lib.hid hb.1
  have HByt : Hid (Byt l) := Lib.hid (fun x hx => by obtain ⟨k, hk, rfl⟩ := List.mem_iff_getElem.1 hx; exact hb.2.2.1 k hk)
  have hn63 : n ≤ 9223372036854775807 := hb.2.1
  clear hv hf hb hs
  obtain ⟨vf, hvf⟩ : ∃ v, decide (ls.length ≤ 40) = v := ⟨_, rfl⟩
  have HVf := Lib.hid hvf
  clear hvf
  go_enter Tryz.func3, Tryz.ntmps3
  go_wp2_with fail
  refine (L.awake w).mono ?_
  rintro e w1 ⟨rfl, hB1⟩
  have HB1 := Lib.hid hB1
  clear hB1
  go_wp2_with fail
  refine (fewN _ _ _ w1 vf HVf.out).mono ?_
  rintro e w2 ⟨rfl, rfl⟩
  cases vf
  · go_wp2_with fail
    refine (L.awake w1).mono ?_
    rintro e w2 ⟨rfl, hB2⟩
    have HB2 := Lib.hid (HB1.out.trans (hB2.mono HB1.out.size))
    clear hB2
    go_wp2_with fail
    go_ret
    exact ⟨rfl, HB2.out⟩
  by_cases hlong : 6 < n
  · have hlong1 : decide (6 < n) = true := decide_eq_true hlong
    have hlong2 : (6 : Int) < (n : Int) := by omega
    go_wp2_with fail
    refine (L.awake w1).mono ?_
    rintro e w2 ⟨rfl, hB2⟩
    have HB2 := Lib.hid (HB1.out.trans (hB2.mono HB1.out.size))
    clear hB2
    go_wp2_with fail
    go_ret
    exact ⟨rfl, HB2.out⟩
  have hlong1 : decide (6 < n) = false := decide_eq_false hlong
  have hlong2 : ¬ (6 : Int) < (n : Int) := by omega
  have h40 : ls.length ≤ 40 := of_decide_eq_true HVf.out
  go_wp2_with fail
  refine (lawMadeB S ls _ (by omega) w1 (HV.out.next HB1.out) HF.out).mono ?_
  rintro e w2 ⟨a, F, rfl, hA2, hF2, hB2⟩
  have HA2 := Lib.hid hA2
  have HG2 : Hid (∀ b, F b → w.heap.size ≤ b) := Lib.hid (fun b q => Nat.le_trans HB1.out.size (hF2 b q))
  have HB2 := Lib.hid (HB1.out.trans (hB2.mono HB1.out.size))
  clear hA2 hF2 hB2
  have hns := made_le ls
  obtain ⟨ns, hnse⟩ : ∃ ns, madeS ls = ns := ⟨_, rfl⟩
  rw [hnse] at HA2 hns
  clear hnse
  have hn40 : ns.length ≤ 40 := by omega
  by_cases hin : isIn ns id
  rotate_left
  · go_wp2_with fail
    refine (L.ofNo id HA2.out HI.out hin).mono ?_
    rintro e w3 ⟨A3, c3, rfl, hA3, hb3⟩
    have HA3 := Lib.hid hA3
    have HB3 := Lib.hid (HB2.out.trans (hb3.mono HB2.out.size))
    clear hA3 hb3
    by_cases h0 : id < 0
    · have h01 : decide (id < 0) = true := decide_eq_true h0
      go_wp2_with fail
      go_ret
      exact ⟨rfl, HB3.out⟩
    · have h01 : decide (id < 0) = false := decide_eq_false h0
      have h02 : (ns.length : Int) ≤ id := by unfold isIn at hin; omega
      have h03 : decide ((ns.length : Int) ≤ id) = true := decide_eq_true h02
      go_wp2_with fail
      refine (S.len HA3.out).mono ?_
      rintro e w4 ⟨rfl, q4, rfl⟩
      have HB4 := Lib.hid (below_drewN' HB3.out q4)
      clear HB3
      go_wp2_with fail
      go_ret
      exact ⟨rfl, HB4.out⟩
  have HIn := Lib.hid hin
  have h00 : ¬ id < 0 := by unfold isIn at hin; omega
  have h01 : decide (id < 0) = false := decide_eq_false h00
  obtain ⟨i0, rfl⟩ : ∃ i0 : Nat, id = (i0 : Int) := ⟨id.toNat, by omega⟩
  have hi0n : i0 < ns.length := by unfold isIn at hin; omega
  clear hin
  go_wp2_with fail
  refine (L.of (i0 : Int) HA2.out HIn.out).mono ?_
  rintro e w3 ⟨A3, n3, c3, er, f, more, F3, rfl, hA3, hF3, ho3, hr3⟩
  have HA3 := Lib.hid hA3
  have HG3 : Hid (∀ b, F3 b → w.heap.size ≤ b) := Lib.hid (fun b q => by rcases hF3 b q with h | h; exact HG2.out b h; exact Nat.le_trans HB2.out.size h)
  have HB3 := Lib.hid (HB2.out.trans (ho3.below HG2.out HB2.out.size))
  have HR3 := Lib.hid hr3
  clear hA3 hF3 ho3 hr3 HA2 HG2
  obtain ⟨nm, hnme⟩ : ∃ nm, ns ++ more = nm := ⟨_, rfl⟩
  have HNm := Lib.hid hnme
  have hi0 : i0 < nm.length := by rw [← hnme, List.length_append]; omega
  have hi01 : (i0 : Int) < (nm.length : Int) := by omega
  have hi02 : ¬ (nm.length : Int) ≤ (i0 : Int) := by omega
  have hi03 : decide ((nm.length : Int) ≤ (i0 : Int)) = false := decide_eq_false hi02
  have hi04 : decide (nm.length ≤ i0) = false := decide_eq_false (by omega)
  rw [hnme] at HA3 HR3
  clear hnme
  have hmx := S.max HA3.out
  go_wp2_with fail
  refine (S.len HA3.out).mono ?_
  rintro e w4 ⟨rfl, q4, rfl⟩
  have HA4 : Hid (AA (w3.drewN q4) a nm F3) := Lib.hid (S.keep HA3.out (fun _ _ => rfl))
  have HB4 := Lib.hid (below_drewN' HB3.out q4)
  have HR4 : Hid (er = 4 ∨ er = 0 ∧ Keeps F3 (w3.drewN q4) (.slice A3 n3 c3) f ∧ Good nm f ∧ OfR ns (i0 : Int) nm f) := Lib.hid (by
    rcases HR3.out with h | ⟨h1, h2, h3, h4⟩
    · exact Or.inl h
    · exact Or.inr ⟨h1, h2.next (below_drewN' (Below.refl _ _) q4), h3, h4⟩)
  obtain ⟨w4, hw4⟩ : ∃ w4, w4 = w3.drewN q4 := ⟨_, rfl⟩
  rw [← hw4] at HA4 HB4 HR4 ⊢
  clear hw4 HA3 HB3 HR3
  obtain ⟨N, hN⟩ : ∃ N, N = n + 1 := ⟨_, rfl⟩
  have HN := Lib.hid hN
  have hN7 : N ≤ 7 := by omega
  have hN0 : 0 < N := by omega
  have e2 : (n : Int) + 1 = ((N : Nat) : Int) := by omega
  clear hN
  have HE2 := Lib.hid e2
  clear e2
  go_wp2_with fail
  rw [HE2.out]
  refine (lawPlaces B m cb sn N (by omega) w4 (HSn.out.below HB4.out)).mono ?_
  rintro e w5 ⟨gb, rfl, hpl, hgb, hb5⟩
  have HPl := Lib.hid hpl
  have HA5 := Lib.hid (S.next HA4.out hb5)
  have HB45 := Lib.hid hb5
  have HB5 := Lib.hid (HB4.out.trans (hb5.mono HB4.out.size))
  have HGb := Lib.hid hgb
  clear hpl hb5 hgb
  go_wp2_with fail
  refine (refNodesB S nm a F3 (by omega) w5 HA5.out).mono ?_
  rintro e w6 ⟨v6, rfl, hn6, hb6⟩
  obtain ⟨A6, c6, hv6, h6a, h6b⟩ := hn6.nds (by omega)
  subst hv6
  have HN6 : Hid (NdsAt w6 (.slice A6 nm.length c6) nm) := Lib.hid ⟨A6, c6, rfl, h6a, h6b⟩
  have HB46 := Lib.hid (HB45.out.trans (hb6.mono HB45.out.size))
  have HB6 := Lib.hid (HB5.out.trans (hb6.mono HB5.out.size))
  have HPl6 := Lib.hid (HPl.out.below hb6)
  have HOk : Hid (∀ j, j < nm.length → NdOk (ndAt nm j) j) := Lib.hid (fun j hj => (S.fine HA5.out).ok j hj)
  clear hn6 hb6 h6a h6b HA5 HPl
  go_wp2_with fail
  refine (spansO nm l (placesS sn N) A6 A (some ⟨gb, 0, none⟩) c6 ca N n N i0 HLn.out HN.out (by omega) (by omega) HOk.out hi0 w6 HN6.out (HBy.out.below HB6.out) HPl6.out).mono ?_
  rintro e w7 ⟨g, mm, cap, ga, ra, rfl, him, hc, ht, hg, hb7⟩
  have him1 : (i0 : Int) < (mm : Int) := by omega
  have hi00 : (0 : Int) ≤ (i0 : Int) := by omega
  have HRow := Lib.hid (ht.rowT hN0 (lo := w4.heap.size) HB46.out.size)
  have HB47 := Lib.hid (HB46.out.trans (hb7.mono HB46.out.size))
  have HB7 := Lib.hid (HB6.out.trans (hb7.mono HB6.out.size))
  have HPl7 := Lib.hid (HPl6.out.below hb7)
  obtain ⟨T, hT⟩ : ∃ T, nodeT l (placesS sn N) nm i0 0 = T := ⟨_, rfl⟩
  rw [hT] at HRow
  have HA7 := Lib.hid (S.next HA4.out HB47.out)
  have HGL : Hid (gb < w7.heap.size) := Lib.hid (by
    obtain ⟨b, o, e, hlt, _⟩ := HPl7.out.2.2.2 hN0
    injection e with e
    injection e with e _ _
    subst e
    exact hlt)
  have HRun : Hid (RunAt AA Good w a l (placesS sn N) T w4.heap.size w7.heap.size ga gb N w7 nm F3) := Lib.hid ⟨HA7.out, HG3.out, fun b q => Or.inl (S.low HA4.out b q), HB7.out, HRow.out, HPl7.out, HGb.out, HGL.out⟩
  have HRes : Hid (er = 4 ∨ er = 0 ∧ Keeps F3 w7 (.slice A3 n3 c3) f ∧ Good nm f ∧ ∀ k, 0 ≤ k → k ≤ l.length → fP (fun x => nodeT l (placesS sn N) nm x 0 k) f = T k) := Lib.hid (by
    rcases HR4.out with h | ⟨h1, h2, h3, h4⟩
    · exact Or.inl h
    · refine Or.inr ⟨h1, h2.next HB47.out, h3, fun k _ hk => ?_⟩
      refine (h4 l (placesS sn N) 0 k ⟨HByt.out, Nat.zero_le _, hk⟩).trans ?_
      show nodeT l (placesS sn N) ns (i0 : Int) 0 k = T k
      rw [← hT, ← HNm.out, nodeT_up l (placesS sn N) more HIn.out])
  clear ht hb7 hT HRow HPl7 HA7 HB7 HB47 HPl6 HB46 HB6 HN6 HOk HB45 HB5 HGb HGL HR4 HA4 HG3
  go_wp2_with fail
  go_loopw [10, 11, 67] (fun u ev v wr => ∃ (j : Nat) (B' : Option Addr) (m' c' : Nat) (er' : Int) (f' : Fm) (ms : List Nd) (F' : Nat → Prop), j ≤ N ∧ v = .int .i64 j ∧ u = .slice B' m' c' ∧ ev = .int .i64 er' ∧ Hid (RunAt AA Good w a l (placesS sn N) T w4.heap.size w7.heap.size ga gb N wr ms F') ∧ Hid (er' = 4 ∨ er' = 0 ∧ Keeps F' wr (.slice B' m' c') f' ∧ Good ms f' ∧ ∀ k, j ≤ k → k ≤ l.length → fP (fun x => nodeT l (placesS sn N) ms x j k) f' = T k)) (fun _ _ v _ => N - (intOf v).toNat)
  case atStart => exact ⟨0, A3, n3, c3, er, f, nm, F3, Nat.zero_le _, rfl, rfl, rfl, HRun, HRes⟩
  case round =>
    clear HRun HRes
    obtain ⟨j, B', m', c', er', f', ms, F', hj, rfl, rfl, rfl, HRn, HRs⟩ := hrel
    by_cases hjN : j < N
    · have hj0 : (0 : Int) ≤ (j : Int) := by omega
      have hj1 : (j : Int) < (n : Int) + 1 := by have := HN.out; omega
      have hj2 : (j : Int) ≤ (n : Int) := by have := HN.out; omega
      have hj3 : j ≤ n := by have := HN.out; omega
      have hj4 : (j : Int) < (N : Int) := by omega
      have hj5 : j < n + 1 := by omega
      have hN0i : (0 : Int) < (N : Int) := by omega
      rcases HRs.out with he4 | ⟨he0, hk, hg, hT⟩
      · subst he4
        go_wp2_with fail
        go_ret
        exact ⟨rfl, HRn.out.below⟩
      subst he0
      have HK := Lib.hid hk
      have HGd := Lib.hid hg
      have HTs := Lib.hid hT
      clear hk hg hT HRs
      obtain ⟨r, r1, r2, q1, q2'⟩ := HRn.out.row.ex
      have HGa : Hid (ga < wr.heap.size ∧ r < wr.heap.size) := Lib.hid (by have := HRn.out.row.big; omega)
      have q2 := q2' j hjN
      obtain ⟨b3, o3, e3, hl3, q3, q4⟩ := bytes_at HRn.out.bits hjN
      injection e3 with e3
      injection e3 with e31 e32
      subst e31 e32
      obtain ⟨bt, hbt⟩ : ∃ bt, ((placesS sn N)[j]?).getD 0 = bt := ⟨_, rfl⟩
      rw [hbt, Nat.zero_add] at q3
      rw [hbt] at q4
      have HBt := Lib.hid hbt
      have HBtl := Lib.hid q4
      have HGb := Lib.hid hl3
      obtain ⟨x, hx⟩ : ∃ x, T j = x := ⟨_, rfl⟩
      rw [hx] at q2
      have HX := Lib.hid hx
      have HAns : Hid (fP (fun x => nullS ms bt x) f' = x) := Lib.hid (by
        rw [← HX.out, ← HTs.out j (Nat.le_refl _) (by have := HLn.out; omega)]
        exact fP_agree (fun p hp y hy => (null_node (S.fine HRn.out.aa) (L.inF HGd.out p hp y hy) (by have := HLn.out; omega) HBt.out).symm))
      have HCall : Hid (Calls Tryz.prog 13 #[a, .slice B' m' c', .int .u8 bt] wr.drew fun e w' => e = .returned (.bool x) ∧ Below wr.heap.size wr w') := Lib.hid (by
        have hb := ((Below.refl wr.heap.size wr).drew)
        refine (L.accepts bt (S.next HRn.out.aa hb) (HK.out.here.next hb) HGd.out HBtl.out).mono ?_
        rintro e w' ⟨rfl, hb'⟩
        exact ⟨by rw [HAns.out], hb.trans hb'⟩)
      clear r1 r2
      have hxx : (x != x) = false := by cases x <;> rfl
      clear hbt q4 hx q2' hl3
      by_cases hjn : j < n
      · have hjn1 : (j : Int) < (n : Int) := by omega
        obtain ⟨bA, oA, rfl, hlA, p3, p4⟩ := bytes_at (HBy.out.below HRn.out.below) hjn
        obtain ⟨bj, hbj⟩ : ∃ bj, (l[j]?).getD 0 = bj := ⟨_, rfl⟩
        rw [hbj] at p3 p4
        have HBj := Lib.hid hbj
        have HBjl := Lib.hid p4
        have HlA := Lib.hid hlA
        clear hbj p4 hlA
        have HNext : Hid (∀ w', Below wr.heap.size wr w' → Calls Tryz.prog 14 #[a, .slice B' m' c', .int .u8 bj, .int .u8 bt] w' fun e w'' => ∃ (A : Option Addr) (n c : Nat) (er : Int) (f : Fm) (ms' : List Nd) (F : Nat → Prop), e = .returned (.tuple #[.slice A n c, .int .i64 er]) ∧ RunAt AA Good w a l (placesS sn N) T w4.heap.size w7.heap.size ga gb N w'' ms' F ∧ (er = 4 ∨ er = 0 ∧ Keeps F w'' (.slice A n c) f ∧ Good ms' f ∧ ∀ k, j + 1 ≤ k → k ≤ l.length → fP (fun x => nodeT l (placesS sn N) ms' x (j + 1) k) f = T k)) := Lib.hid (fun w' hb => by
          have hR := HRn.out.below' S hb
          refine (L.next bj bt hR.aa (HK.out.next hb) HGd.out HBjl.out HBtl.out).mono ?_
          rintro e w'' ⟨A, n1, c, er, h, more, F, rfl, h1, h2, h3, h4⟩
          refine ⟨A, n1, c, er, h, _, F, rfl, hR.off h1 h2 h3, ?_⟩
          rcases h4 with h4 | ⟨h4, h5, h6, h7⟩
          · exact Or.inl h4
          · refine Or.inr ⟨h4, h5, h6, fun k k1 k2 => ?_⟩
            exact (h7 l (placesS sn N) j k ⟨HByt.out, by omega, k2, HBj.out, HBt.out⟩).trans (HTs.out k (by omega) k2))
        go_wp2_with fail
        go_region_with (first
          | (go_at_call 13; (with_reducible refine HCall.out.mono ?_); rintro e w8 ⟨rfl, hb8⟩
             have HB8 := Lib.hid hb8
             have m1 := ((bcell hb8).1 ga _ HGa.out.1).trans q1
             have m2 := ((bcell hb8).1 r _ HGa.out.2).trans q2
             have m3 := ((bcell hb8).1 gb _ HGb.out).trans q3
             have m4 := ((bcell hb8).1 bA _ HlA.out).trans p3
             clear hb8))
        all_goals
          clear q1 q2 q3 p3 m1 m2
          have hb9 := HB8.out.drew
          have HNx := Lib.hid (HNext.out _ hb9)
          clear hb9
          go_wp2_with fail
          go_region_with (first
            | (go_at_call 14; (with_reducible refine HNx.out.mono ?_); rintro e w9 ⟨A9, n9, c9, er9, f9, ms9, F9, rfl, hr9, hs9⟩
               have HR9 := Lib.hid hr9
               have HS9 := Lib.hid hs9
               clear hr9 hs9))
        all_goals go_wp2_with fail
        all_goals exact ⟨⟨j + 1, A9, n9, c9, er9, f9, ms9, F9, by omega, by go_num, rfl, rfl, HR9, HS9⟩, by simp [intOf]; omega⟩
      · have hjn1 : ¬ (j : Int) < (n : Int) := by omega
        have hjn2 : (n : Int) ≤ (j : Int) := by omega
        go_wp2_with fail
        go_region_with (first
          | (go_at_call 13; (with_reducible refine HCall.out.mono ?_); rintro e w8 ⟨rfl, hb8⟩
             have HB8 := Lib.hid hb8
             have m1 := ((bcell hb8).1 ga _ HGa.out.1).trans q1
             have m2 := ((bcell hb8).1 r _ HGa.out.2).trans q2
             clear hb8))
        all_goals go_wp2_with fail
        all_goals exact ⟨⟨j + 1, B', m', c', 0, f', ms, F', by omega, by go_num, rfl, rfl, Lib.hid (HRn.out.below' S HB8.out), Lib.hid (Or.inr ⟨rfl, HK.out.next HB8.out, HGd.out, fun k k1 k2 => absurd k2 (by have := HLn.out; omega)⟩)⟩, by simp [intOf]; omega⟩
    · obtain rfl : j = N := by omega
      have hj1 : ¬ (j : Int) < (n : Int) + 1 := by have := HN.out; omega
      have hj2 : (n : Int) < (j : Int) := by have := HN.out; omega
      have hj3 : ¬ (j : Int) ≤ (n : Int) := by omega
      go_wp2_with fail
      go_ret
      exact ⟨rfl, HRn.out.below⟩

end Go.Proofs.YthifbaacmohmnaaGreat
