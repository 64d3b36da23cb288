/- Joined: BuildM, BuildT, BuildU. -/
import Derived.Test.YtcghclikkeajfaaGreatMB
import Derived.Test.YtcghclikkeajfaaGreatMi
import Derived.Test.YtcghclikkeajfaaGreatMA
import Derived.Test.YtcghclikkeajfaaGreatMz
import Derived.Test.YtcghclikkeajfaaGreatMd
/- Build: one behind the other of many; how wide nodes are; what they match. Mathematics; no program is named. -/
namespace Go.Proofs.YtcghclikkeajfaaGreat
open Go.RowKit
set_option linter.unusedSimpArgs false
set_option linter.unusedVariables false
set_option linter.unusedSectionVars false

theorem nodesF_up (l bits : List Nat) (ns more : List Nd) : ∀ j, j ≤ ns.length → nodesF l bits (ns ++ more) j = nodesF l bits ns j
  | 0, _ => rfl
  | j + 1, h => by
    show nodesF l bits (ns ++ more) j ++ [nodeF l bits (nodesF l bits (ns ++ more) j) (ndAt (ns ++ more) j)] = nodesF l bits ns j ++ [nodeF l bits (nodesF l bits ns j) (ndAt ns j)]
    have e : ndAt (ns ++ more) j = ndAt ns j := by unfold ndAt; rw [List.getElem?_append_left (by omega)]
    rw [nodesF_up l bits ns more j (by omega), e]
theorem nodeT_up (l bits : List Nat) {ns : List Nd} (more : List Nd) {x : Int} (hx : isIn ns x) : nodeT l bits (ns ++ more) x = nodeT l bits ns x := by
  unfold isIn at hx
  rw [← fAt_prefix l bits (ns ++ more) x ns.length hx.1 hx.2 (by rw [List.length_append]; omega), nodesF_up l bits ns more ns.length (Nat.le_refl _)]
  rfl
/- One behind the other of many. -/
def catLV (ns : List Nd) (l : List Int) : Option (List Int) := l.foldr (fun x acc => catJ (catV ns x) acc) (some [])
def CatLR (ns : List Nd) (l : List Int) (r : Int) : Prop := isIn ns r ∧ catV ns r = catLV ns l
theorem catJ_nil (u : Option (List Int)) : catJ u (some []) = u := by cases u <;> simp [catJ]
theorem CatLR.one {ns : List Nd} {x : Int} (hx : isIn ns x) : CatLR ns [x] x := ⟨hx, by show _ = catJ (catV ns x) (some []); rw [catJ_nil]⟩
theorem CatLR.cons {ns : List Nd} {x q r : Int} {l : List Int} (h : CatR ns x q r) (h' : CatLR ns l q) : CatLR ns (x :: l) r := ⟨h.1, by rw [h.2, h'.2]; rfl⟩
theorem catLV_up {ns : List Nd} (hf : FineN ns) (more : List Nd) : ∀ {l : List Int}, (∀ x ∈ l, isIn ns x) → catLV (ns ++ more) l = catLV ns l
  | [], _ => rfl
  | x :: l, h => by
    show catJ (catV (ns ++ more) x) (catLV (ns ++ more) l) = catJ (catV ns x) (catLV ns l)
    rw [catV_up hf more (h x (by simp)), catLV_up hf more (fun y hy => h y (List.mem_cons_of_mem _ hy))]
theorem CatLR.up {ns : List Nd} (hf : FineN ns) (more : List Nd) {l : List Int} {r : Int} (hl : ∀ x ∈ l, isIn ns x) (h : CatLR ns l r) : CatLR (ns ++ more) l r := ⟨h.1.up more, by rw [catV_up hf more h.1, catLV_up hf more hl]; exact h.2⟩
theorem CatLR.table {ns : List Nd} (hf : FineN ns) {l bits : List Nat} {xs : List Int} {r : Int} (hl : ∀ x ∈ xs, isIn ns x) (h : CatLR ns xs r) : Eqv (l.length + 1) (nodeT l bits ns r) (xs.foldr (fun x g => thenF (nodeT l bits ns x) g (l.length + 1)) eqF) := by
  refine (cat_table hf _ r (Nat.le_refl _) h.1).trans ?_
  rw [h.2]
  clear h
  induction xs with
  | nil => exact Eqv.refl _ _
  | cons x xs ih =>
    refine (catJ_table (catV ns x) (catLV ns xs)).trans ?_
    exact then_congr (cat_table hf _ x (Nat.le_refl _) (hl x (by simp))).symm (ih (fun y hy => hl y (List.mem_cons_of_mem _ hy)))
theorem foldr_congr {n : Nat} : ∀ {fs gs : List Tbl}, fs.length = gs.length → (∀ i (h1 : i < fs.length) (h2 : i < gs.length), Eqv n fs[i] gs[i]) → Eqv n (fs.foldr (fun f g => thenF f g n) eqF) (gs.foldr (fun f g => thenF f g n) eqF)
  | [], [], _, _ => Eqv.refl _ _
  | [], _ :: _, h, _ => by cases h
  | _ :: _, [], h, _ => by cases h
  | f :: fs, g :: gs, h, hi => then_congr (hi 0 (by simp) (by simp)) (foldr_congr (by simpa using h) (fun i h1 h2 => by have := hi (i + 1) (by simp; omega) (by simp; omega); simpa using this))
theorem foldl_foldr {n : Nat} : ∀ (fs : List Tbl) (g : Tbl), (∀ i j, g i j = true → i ≤ j) → Eqv n (fs.foldl (fun f g => thenF f g n) g) (thenF g (fs.foldr (fun f g => thenF f g n) eqF) n)
  | [], g, hg => (eq_then_swap n _).symm.trans (eq_then hg) |>.symm
  | f :: fs, g, hg => (foldl_foldr fs (thenF g f n) (fun i j h => then_slim h)).trans (then_assoc n _ _ _)
theorem foldl_cat {n : Nat} (fs : List Tbl) : Eqv n (fs.foldl (fun f g => thenF f g n) eqF) (fs.foldr (fun f g => thenF f g n) eqF) := by
  refine (foldl_foldr fs eqF (fun i j h => by have := (eqF_iff _ _).1 h; omega)).trans (eq_then (fun i j h => ?_))
  cases fs with
  | nil => have := (eqF_iff _ _).1 h; omega
  | cons f fs => exact then_slim h
theorem foldl_or : ∀ (fs : List Tbl) (g : Tbl) (i j : Nat), fs.foldl (fun f g i j => f i j || g i j) g i j = (g i j || fs.any (fun f => f i j))
  | [], g, i, j => by simp
  | f :: fs, g, i, j => by rw [List.foldl_cons, foldl_or fs]; simp [Bool.or_assoc]
theorem foldl_and : ∀ (fs : List Tbl) (g : Tbl) (i j : Nat), fs.foldl (fun f g i j => f i j && g i j) g i j = (g i j && fs.all (fun f => f i j))
  | [], g, i, j => by simp
  | f :: fs, g, i, j => by rw [List.foldl_cons, foldl_and fs]; simp [Bool.and_assoc]
/- How wide. -/
def Len1 (ns : List Nd) (n : Nat) (x : Int) : Prop := catN ns x ≤ n ∧ (mem ns 4 x).length ≤ n ∧ (mem ns 5 x).length ≤ n
def Wide (ns : List Nd) (n : Nat) (x : Int) : Prop := Len1 ns n x ∧ (kd ns x = 6 → Len1 ns n (ka ns x))
theorem Len1.mono {ns : List Nd} {n m : Nat} {x : Int} (h : Len1 ns n x) (hm : n ≤ m) : Len1 ns m x := ⟨Nat.le_trans h.1 hm, Nat.le_trans h.2.1 hm, Nat.le_trans h.2.2 hm⟩
theorem Wide.mono {ns : List Nd} {n m : Nat} {x : Int} (h : Wide ns n x) (hm : n ≤ m) : Wide ns m x := ⟨h.1.mono hm, fun e => (h.2 e).mono hm⟩
theorem catN_up {ns : List Nd} (hf : FineN ns) (more : List Nd) {x : Int} (hx : isIn ns x) : catN (ns ++ more) x = catN ns x := by unfold catN; rw [catV_up hf more hx]
theorem Len1.up {ns : List Nd} (hf : FineN ns) (more : List Nd) {n : Nat} {x : Int} (hx : isIn ns x) (h : Len1 ns n x) : Len1 (ns ++ more) n x :=
  ⟨by rw [catN_up hf more hx]; exact h.1, by rw [mem_up hf (Or.inl rfl) more _ x (Nat.le_refl _) hx]; exact h.2.1, by rw [mem_up hf (Or.inr rfl) more _ x (Nat.le_refl _) hx]; exact h.2.2⟩
theorem Wide.up {ns : List Nd} (hf : FineN ns) (more : List Nd) {n : Nat} {x : Int} (hx : isIn ns x) (h : Wide ns n x) : Wide (ns ++ more) n x :=
  ⟨h.1.up hf more hx, fun e => by
    rw [kd_up hx] at e
    rw [ka_up hx]
    exact (h.2 e).up hf more (in_one hf hx (Or.inl e)).1⟩
theorem catN_small {ns : List Nd} {x : Int} (h : kd ns x ≠ 3) : catN ns x ≤ 1 := by
  unfold catN
  by_cases h0 : kd ns x = 0
  · rw [cat_none h0]; simp
  · by_cases h1 : kd ns x = 1
    · rw [cat_empty h1]; simp
    · rw [cat_leaf h0 h1 h]; simp
theorem len1_small {ns : List Nd} {x : Int} (h3 : kd ns x ≠ 3) (h4 : kd ns x ≠ 4) (h5 : kd ns x ≠ 5) {n : Nat} (hn : 1 ≤ n) : Len1 ns n x :=
  ⟨Nat.le_trans (catN_small h3) hn, by rw [mem_leaf h4]; exact hn, by rw [mem_leaf h5]; exact hn⟩
theorem wide_small {ns : List Nd} {x : Int} (h3 : kd ns x ≠ 3) (h4 : kd ns x ≠ 4) (h5 : kd ns x ≠ 5) (h6 : kd ns x ≠ 6) {n : Nat} (hn : 1 ≤ n) : Wide ns n x := ⟨len1_small h3 h4 h5 hn, fun e => absurd e h6⟩
theorem wide_al {ns : List Nd} {x : Int} (h : isAl ns x = true) {n : Nat} (hn : 1 ≤ n) : Wide ns n x := by
  unfold isAl at h
  rw [Bool.and_eq_true, decide_eq_true_eq, decide_eq_true_eq] at h
  exact ⟨len1_small (by omega) (by omega) (by omega) hn, fun _ => len1_small (by omega) (by omega) (by omega) hn⟩
section
variable {ns : List Nd} (hc : Canon ns)
include hc
theorem wide_not {x r : Int} {n : Nat} (hx : isIn ns x) (h : NotR ns x r) (wx : Wide ns n x) (hn : 1 ≤ n) : Wide ns n r := by
  by_cases e : kd ns x = 6
  · have hr := h.2.1 e
    rw [hr]
    exact ⟨wx.2 e, fun e2 => absurd e2 (hc.not x hx e)⟩
  · obtain ⟨h1, h2⟩ := h.2.2 e
    exact ⟨len1_small (by omega) (by omega) (by omega) hn, fun _ => by rw [h2]; exact wx.1⟩
theorem wide_star {x r : Int} {n : Nat} (hx : isIn ns x) (h : StarR ns x r) (wx : Wide ns n x) (hn : 1 ≤ n) : Wide ns n r := by
  by_cases e : kd ns x = 0 ∨ kd ns x = 1
  · have := h.2.1 e
    exact wide_small (by omega) (by omega) (by omega) (by omega) hn
  · by_cases e7 : kd ns x = 7
    · rw [h.2.2.1 e7]; exact wx
    · have := (h.2.2.2 (by omega) (by omega) e7).1
      exact wide_small (by omega) (by omega) (by omega) (by omega) hn
variable {k : Int} (hk : k = 4 ∨ k = 5)
include hk
/-- What is put together of a list has at most as many members as they have. -/
theorem join_lenL {l : List Int} {r : Int} (hl : ∀ x ∈ l, isIn ns x) (h : JoinR ns k l r) (ht : topB ns k r = false) (hu : unitB ns k r = false) : (mem ns k r).length ≤ memN ns k l := by
  have hmn : memN ns k l = (l.flatMap (mem ns k)).length := by unfold memN; rw [List.length_flatMap]
  rw [hmn]
  have hnd := els hc hk h.1 ht hu
  by_cases hb : ∃ y ∈ mem ns k r, kd ns y = 2
  · obtain ⟨y0, hy0, k0⟩ := hb
    have hz : ∃ z0 ∈ l.flatMap (mem ns k), kd ns z0 = 2 := by
      rcases join_member hc hk hl h ht hu hy0 with ⟨x, hx, hm, _⟩ | ⟨_, x, hx, _, _, z, hz, h2⟩
      · exact ⟨y0, List.mem_flatMap.2 ⟨x, hx, hm⟩, k0⟩
      · exact ⟨z, List.mem_flatMap.2 ⟨x, hx, hz⟩, h2⟩
    obtain ⟨z0, hz0, kz⟩ := hz
    have hsub : ∀ z ∈ (mem ns k r).erase y0, z ∈ (l.flatMap (mem ns k)).erase z0 := fun z hz => by
      have hzm : z ∈ mem ns k r := List.mem_of_mem_erase hz
      have hne : z ≠ y0 := fun e => by
        have hn : (mem ns k r).Nodup := hnd.1.imp (fun h => by omega)
        rw [e] at hz
        exact (List.Nodup.not_mem_erase hn) hz
      have hz2 : kd ns z ≠ 2 := fun e => hne (hnd.2.2 z hzm y0 hy0 e k0)
      rw [List.mem_erase_of_ne (fun e => hz2 (by rw [e]; exact kz))]
      rcases join_member hc hk hl h ht hu hzm with ⟨x, hx, hm, _⟩ | ⟨q, _⟩
      · exact List.mem_flatMap.2 ⟨x, hx, hm⟩
      · exact absurd q hz2
    have hp := sub_len (hnd.1.sublist List.erase_sublist) hsub
    have e1 := List.length_erase_of_mem hy0
    have e2 := List.length_erase_of_mem hz0
    have : 0 < (l.flatMap (mem ns k)).length := List.length_pos_of_mem hz0
    omega
  · refine sub_len hnd.1 (fun z hz => ?_)
    rcases join_member hc hk hl h ht hu hz with ⟨x, hx, hm, _⟩ | ⟨q, _⟩
    · exact List.mem_flatMap.2 ⟨x, hx, hm⟩
    · exact absurd ⟨z, hz, q⟩ hb
theorem join_whichL {l : List Int} {r : Int} (hl : ∀ x ∈ l, isIn ns x) (h : JoinR ns k l r) : (∃ x ∈ l, r = x) ∨ kd ns r = k ∨ kd ns r = 2 ∨ kd ns r = 0 ∨ isAl ns r = true := by
  by_cases q : topB ns k r = true ∨ unitB ns k r = true
  · right; right; right
    rcases q with q | q
    · unfold topB at q
      split at q
      · exact Or.inr q
      · exact Or.inl (of_decide_eq_true q)
    · unfold unitB at q
      split at q
      · exact Or.inl (of_decide_eq_true q)
      · exact Or.inr q
  · have ht : topB ns k r = false := by cases e : topB ns k r with | false => rfl | true => exact absurd (Or.inl e) q
    have hu : unitB ns k r = false := by cases e : unitB ns k r with | false => rfl | true => exact absurd (Or.inr e) q
    by_cases e : kd ns r = k
    · exact Or.inr (Or.inl e)
    by_cases e2 : kd ns r = 2
    · exact Or.inr (Or.inr (Or.inl e2))
    have hm : mem ns k r = [r] := mem_leaf e
    have hns : ¬ Shuts k (fun a => l.any (fun x => view ns k x a)) := fun q => by
      have := h.2 .top
      rw [clos_yes q, view_top, ht] at this; cases this
    have hv : ∀ a, view ns k r a = l.any (fun x => view ns k x a) := fun a => by rw [h.2, clos_no hns]
    rcases join_member hc hk hl h ht hu (y := r) (by rw [hm]; exact List.mem_singleton_self _) with ⟨w, hw, hrw, tw, uw⟩ | ⟨q2, _⟩
    · refine Or.inl ⟨w, hw, ?_⟩
      have hall : ∀ z ∈ mem ns k w, z = r := fun z hz => by
        by_cases z2 : kd ns z = 2
        · have := view_some hc hk (hl w hw) tw hz z2
          have hr : view ns k r .some = true := by rw [hv, List.any_eq_true]; exact ⟨w, hw, this⟩
          unfold view at hr
          rw [ht, hm, Bool.false_or, List.any_cons, List.any_nil, Bool.or_false] at hr
          exact absurd (of_decide_eq_true hr) e2
        · have := (view_oth hc hk (hl w hw) tw uw z2).2 hz
          have hr : view ns k r (.oth z) = true := by rw [hv, List.any_eq_true]; exact ⟨w, hw, this⟩
          have := (view_oth hc hk h.1 ht hu z2).1 hr
          rw [hm] at this
          exact List.mem_singleton.1 this
      have hmw : mem ns k w = [r] := by
        have hp := (els hc hk (hl w hw) tw uw).1
        match hq : mem ns k w, hall, hp, hrw with
        | [a], hall, _, _ => rw [hall a (by simp)]
        | a :: b :: l, hall, hp, _ =>
          have h1 := hall a (by simp)
          have h2 := hall b (by simp)
          have := (List.pairwise_cons.1 hp).1 b (by simp)
          omega
      exact mem_inj hc hk _ r w (Nat.le_refl _) h.1 (hl w hw) (by rw [hm, hmw])
    · exact absurd q2 e2
/-- How wide what is put together of a list is. -/
theorem wide_join {l : List Int} {r : Int} {n : Nat} (hl : ∀ x ∈ l, isIn ns x) (h : JoinR ns k l r) (hw : ∀ x ∈ l, Wide ns n x) (hm : memN ns k l ≤ n) (hn : 1 ≤ n) : Wide ns n r := by
  rcases join_whichL hc hk hl h with ⟨x, hx, rfl⟩ | e | e | e | e
  · exact hw r hx
  · have ht : topB ns k r = false := by
      cases q : topB ns k r with
      | false => rfl
      | true => have := topB_kind q; omega
    have hu : unitB ns k r = false := by
      cases q : unitB ns k r with
      | false => rfl
      | true => have := unitB_kind q; omega
    have hle := join_lenL hc hk hl h ht hu
    refine ⟨⟨Nat.le_trans (catN_small (by omega)) hn, ?_, ?_⟩, fun e2 => by omega⟩
    · rcases hk with rfl | rfl
      · omega
      · rw [mem_leaf (by omega)]; exact hn
    · rcases hk with rfl | rfl
      · rw [mem_leaf (by omega)]; exact hn
      · omega
  · exact wide_small (by omega) (by omega) (by omega) (by omega) hn
  · exact wide_small (by omega) (by omega) (by omega) (by omega) hn
  · exact wide_al e hn
end

end Go.Proofs.YtcghclikkeajfaaGreat

/- Build: what the node of a pattern matches, kind by kind. Mathematics; no program is named. -/
namespace Go.Proofs.YtcghclikkeajfaaGreat
open Go.RowKit
set_option linter.unusedSimpArgs false
set_option linter.unusedVariables false
set_option linter.unusedSectionVars false

def zerosB (l : List Nat) : List Nat := List.replicate (l.length + 1) 0
/-- r matches what f says, in each input of up to six bytes, where no look is true. -/
def TabR (ns : List Nd) (r : Int) (f : List Nat → Tbl) : Prop := ∀ l : List Nat, (∀ b ∈ l, b < 256) → l.length ≤ 6 → Eqv (l.length + 1) (nodeT l (zerosB l) ns r) (f l)
theorem TabR.up {ns : List Nd} {r : Int} {f : List Nat → Tbl} (h : TabR ns r f) (hr : isIn ns r) (more : List Nd) : TabR (ns ++ more) r f := fun l hb hl => by
  rw [nodeT_up l (zerosB l) more hr]
  exact h l hb hl
/-- The nodes xs match what the patterns ps do. -/
def AllR (ns : List Nd) (k : Nat) (xs : List Int) (ps : List Tr) : Prop := xs.length = ps.length ∧ (∀ x ∈ xs, isIn ns x) ∧ ∀ (i : Nat) (h1 : i < xs.length) (h2 : i < ps.length), TabR ns xs[i] (fun l => spansS l k ps[i])
theorem AllR.up {ns : List Nd} {k : Nat} {xs : List Int} {ps : List Tr} (h : AllR ns k xs ps) (more : List Nd) : AllR (ns ++ more) k xs ps :=
  ⟨h.1, fun x hx => (h.2.1 x hx).up more, fun i h1 h2 => (h.2.2 i h1 h2).up (h.2.1 _ (List.getElem_mem h1)) more⟩
theorem AllR.nil {ns : List Nd} {k : Nat} : AllR ns k [] [] := ⟨rfl, (by intro x hx; cases hx), fun i h1 _ => absurd h1 (Nat.not_lt_zero _)⟩
theorem AllR.snoc {ns : List Nd} {k : Nat} {xs : List Int} {ps : List Tr} {x : Int} {p : Tr} (h : AllR ns k xs ps) (hx : isIn ns x) (ht : TabR ns x (fun l => spansS l k p)) : AllR ns k (xs ++ [x]) (ps ++ [p]) := by
  refine ⟨by rw [List.length_append, List.length_append, h.1]; rfl, fun y hy => ?_, fun i h1 h2 => ?_⟩
  · rcases List.mem_append.1 hy with hy | hy
    · exact h.2.1 y hy
    · rw [List.mem_singleton.1 hy]; exact hx
  · rw [List.length_append, List.length_singleton] at h1
    by_cases e : i < xs.length
    · have e2 : i < ps.length := by rw [← h.1]; exact e
      rw [List.getElem_append_left e, List.getElem_append_left e2]
      exact h.2.2 i e e2
    · have e1 : i = xs.length := by omega
      have e2 : i = ps.length := by rw [← h.1]; exact e1
      rw [List.getElem_append_right (by omega), List.getElem_append_right (by omega)]
      simpa using ht
section
variable {ns : List Nd} (hc : Canon ns)
include hc
theorem tab_none {r : Int} (hr : isIn ns r) (k : kd ns r = 0) : TabR ns r (fun _ => noF) := fun l _ _ => by rw [T_no hc.fine hr k]; exact Eqv.refl _ _
theorem tab_empty {r : Int} (hr : isIn ns r) (k : kd ns r = 1) : TabR ns r (fun _ => eqF) := fun l _ _ => by rw [T_em hc.fine hr k]; exact Eqv.refl _ _
theorem tab_bytes {r : Int} {s : St} (hr : isIn ns r) (h : (s.list.length = 0 ∧ kd ns r = 0) ∨ (s.list.length ≠ 0 ∧ ndAt ns r.toNat = ⟨2, s, 0, 0, false⟩)) : TabR ns r (fun l => byteF s l) := fun l hb _ => by
  rcases h with ⟨h0, k⟩ | ⟨_, k⟩
  · rw [T_no hc.fine hr k]
    intro i j hi hj
    refine Eq.symm ?_
    show byteF s l i j = false
    unfold byteF
    by_cases e : j = i + 1 ∧ i < l.length
    · rw [decide_eq_true e, Bool.true_and]
      have hlt := e.2
      refine list_none.1 h0 _ ?_
      rw [List.getElem?_eq_getElem hlt]
      exact hb _ (List.getElem_mem hlt)
    · rw [decide_eq_false e, Bool.false_and]
  · have k2 : kd ns r = 2 := by unfold kd; rw [k]
    rw [T_bytes hc.fine hr k2, k]
    exact Eqv.refl _ _
theorem tab_cat {k : Nat} {xs : List Int} {ps : List Tr} {r : Int} (h : CatLR ns xs r) (ha : AllR ns k xs ps) : TabR ns r (fun l => (ps.map (spansS l k)).foldl (fun f g => thenF f g (l.length + 1)) eqF) := fun l hb hl => by
  refine (h.table hc.fine ha.2.1).trans (Eqv.trans ?_ (foldl_cat _).symm)
  have e : ∀ ys : List Int, ys.foldr (fun x g => thenF (nodeT l (zerosB l) ns x) g (l.length + 1)) eqF = (ys.map (nodeT l (zerosB l) ns)).foldr (fun f g => thenF f g (l.length + 1)) eqF := fun ys => by rw [List.foldr_map]
  rw [e]
  refine foldr_congr (by rw [List.length_map, List.length_map]; exact ha.1) (fun i h1 h2 => ?_)
  rw [List.getElem_map, List.getElem_map]
  rw [List.length_map] at h1 h2
  exact ha.2.2 i h1 h2 l hb hl
omit hc in
theorem any_all_eq {k n : Nat} {xs : List Int} {ps : List Tr} {l : List Nat} (ha : AllR ns k xs ps) (hb : ∀ b ∈ l, b < 256) (hl : l.length ≤ 6) {i j : Nat} (hi : i < l.length + 1) (hj : j < l.length + 1) : xs.any (fun x => nodeT l (zerosB l) ns x i j) = (ps.map (spansS l k)).any (fun f => f i j) ∧ xs.all (fun x => nodeT l (zerosB l) ns x i j) = (ps.map (spansS l k)).all (fun f => f i j) := by
  have e : xs.map (fun x => nodeT l (zerosB l) ns x i j) = (ps.map (spansS l k)).map (fun f => f i j) := by
    apply List.ext_getElem
    · rw [List.length_map, List.length_map, List.length_map]; exact ha.1
    · intro m h1 h2
      rw [List.getElem_map, List.getElem_map, List.getElem_map]
      rw [List.length_map] at h1
      exact ha.2.2 m h1 (by rw [← ha.1]; exact h1) l hb hl i j hi hj
  have e1 := congrArg (fun m : List Bool => m.any id) e
  have e2 := congrArg (fun m : List Bool => m.all id) e
  simp only [List.any_map, List.all_map] at e1 e2
  exact ⟨by simpa [Function.comp_def] using e1, by simpa [Function.comp_def] using e2⟩
theorem tab_or {k : Nat} {xs : List Int} {ps : List Tr} {r : Int} (h : JoinR ns 4 xs r) (ha : AllR ns k xs ps) : TabR ns r (fun l => (ps.map (spansS l k)).foldl (fun f g i j => f i j || g i j) noF) := fun l hb hl i j hi hj => by
  show _ = (ps.map (spansS l k)).foldl (fun f g i j => f i j || g i j) noF i j
  rw [join4_table hc hb ha.2.1 h i j, foldl_or, (any_all_eq (n := 0) ha hb hl hi hj).1]
  rfl
theorem tab_and {k : Nat} {xs : List Int} {ps : List Tr} {r : Int} (h : JoinR ns 5 xs r) (ha : AllR ns k xs ps) : TabR ns r (fun l => (ps.map (spansS l k)).foldl (fun f g i j => f i j && g i j) (otherF noF)) := fun l hb hl i j hi hj => by
  show _ = (ps.map (spansS l k)).foldl (fun f g i j => f i j && g i j) (otherF noF) i j
  rw [join5_table hc hb ha.2.1 h i j, foldl_and, (any_all_eq (n := 0) ha hb hl hi hj).2]
  unfold otherF noF
  simp
theorem tab_not {x r : Int} {f : List Nat → Tbl} (hx : isIn ns x) (h : NotR ns x r) (hf : TabR ns x f) : TabR ns r (fun l => otherF (f l)) := fun l hb hl i j hi hj => by
  rw [notR_table hc.fine hx h i j]
  unfold otherF
  rw [hf l hb hl i j hi hj]
/-- Times: a list of lo times x, then what comes behind. -/
theorem tab_led {x z r : Int} {lo : Nat} {f g : List Nat → Tbl} (hx : isIn ns x) (hz : isIn ns z) (h : CatLR ns (List.replicate lo x ++ [z]) r) (hf : TabR ns x f) (hg : TabR ns z g) : TabR ns r (fun l => ledF (f l) (l.length + 1) lo (g l)) := fun l hb hl => by
  refine (h.table hc.fine (fun y hy => ?_)).trans ?_
  · rcases List.mem_append.1 hy with hy | hy
    · rw [List.eq_of_mem_replicate hy]; exact hx
    · rw [List.mem_singleton.1 hy]; exact hz
  · clear h
    induction lo with
    | zero =>
      show Eqv _ (thenF (nodeT l (zerosB l) ns z) eqF (l.length + 1)) (g l)
      refine ((eq_then_swap (l.length + 1) _).symm.trans (eq_then (fun i j q => slimT hc.fine _ z (Nat.le_refl _) hz i j q))).trans (hg l hb hl)
    | succ lo ih => exact then_congr (hf l hb hl) ih
theorem tab_rep {x r : Int} {lo : Nat} {f : List Nat → Tbl} (hx : isIn ns x) (h : CatLR ns (List.replicate lo x) r) (hf : TabR ns x f) : TabR ns r (fun l => ledF (f l) (l.length + 1) lo eqF) := fun l hb hl => by
  refine (h.table hc.fine (fun y hy => by rw [List.eq_of_mem_replicate hy]; exact hx)).trans ?_
  clear h
  induction lo with
  | zero => exact Eqv.refl _ _
  | succ lo ih => exact then_congr (hf l hb hl) ih
theorem tab_star {x r : Int} {f : List Nat → Tbl} (hx : isIn ns x) (h : StarR ns x r) (hf : TabR ns x f) : TabR ns r (fun l => anyTo (f l) (l.length + 1) (l.length + 1)) := fun l hb hl =>
  (starR_table hc.fine hx h).trans (any_congr (hf l hb hl) _)
/-- One time more at most. -/
theorem tab_may {x e c r : Int} {m : Nat} {f : List Nat → Tbl} {id : Int} (hx : isIn ns x) (hid : isIn ns id) (he : isIn ns e) (ke : kd ns e = 1) (hcat : CatR ns x id c) (h : JoinR ns 4 [e, c] r) (hf : TabR ns x f) (hm : TabR ns id (fun l => mayF (f l) (l.length + 1) m)) : TabR ns r (fun l => mayF (f l) (l.length + 1) (m + 1)) := fun l hb hl i j hi hj => by
  rw [join4_table hc hb (fun y hy => by simp at hy; rcases hy with rfl | rfl; exact he; exact hcat.1) h i j]
  rw [List.any_cons, List.any_cons, List.any_nil, Bool.or_false, T_em hc.fine he ke]
  show _ = (eqF i j || thenF (f l) (mayF (f l) (l.length + 1) m) (l.length + 1) i j)
  rw [catR_table hc.fine hx hid hcat i j hi hj, then_congr (hf l hb hl) (hm l hb hl) i j hi hj]
end

end Go.Proofs.YtcghclikkeajfaaGreat

/- Build: how wide what it puts together is. Mathematics; no program is named. -/
namespace Go.Proofs.YtcghclikkeajfaaGreat
open Go.RowKit
set_option linter.unusedSimpArgs false
set_option linter.unusedVariables false
set_option linter.unusedSectionVars false

def CatW (ns : List Nd) (l : List Int) (r : Int) : Prop := CatLR ns l r ∧ (r ∈ l ∨ kd ns r = 3 ∨ kd ns r = 0 ∨ kd ns r = 1)
theorem CatW.one {ns : List Nd} {x : Int} (hx : isIn ns x) : CatW ns [x] x := ⟨CatLR.one hx, Or.inl (by simp)⟩
theorem CatW.empty {ns : List Nd} {r : Int} (hr : isIn ns r) (k : kd ns r = 1) : CatW ns [] r := ⟨⟨hr, by rw [cat_empty k]; rfl⟩, Or.inr (Or.inr (Or.inr k))⟩
theorem CatW.cons {ns : List Nd} (hc : Canon ns) {x q r : Int} {l : List Int} (hx : isIn ns x) (h : CatR ns x q r) (h' : CatW ns l q) : CatW ns (x :: l) r := by
  refine ⟨h'.1.cons h, ?_⟩
  rcases cat_which hc hx h'.1.1 h with rfl | rfl | k | k | k
  · exact Or.inl (by simp)
  · rcases h'.2 with z | z
    · exact Or.inl (List.mem_cons_of_mem _ z)
    · exact Or.inr z
  · exact Or.inr (Or.inl k)
  · exact Or.inr (Or.inr (Or.inl k))
  · exact Or.inr (Or.inr (Or.inr k))
theorem CatW.up {ns : List Nd} (hf : FineN ns) (more : List Nd) {l : List Int} {r : Int} (hl : ∀ x ∈ l, isIn ns x) (h : CatW ns l r) : CatW (ns ++ more) l r :=
  ⟨h.1.up hf more hl, by rw [kd_up h.1.1]; exact h.2⟩
theorem catLV_len {ns : List Nd} : ∀ l : List Int, ((catLV ns l).getD []).length ≤ (l.map (catN ns)).sum
  | [] => Nat.le_refl _
  | x :: l => by
    have h := catLV_len (ns := ns) l
    show ((catJ (catV ns x) (catLV ns l)).getD []).length ≤ ((x :: l).map (catN ns)).sum
    rw [List.map_cons, List.sum_cons]
    unfold catN at h ⊢
    cases hx : catV ns x with
    | none => simp [catJ]
    | some u =>
      cases hl : catLV ns l with
      | none => simp [catJ]
      | some v =>
        rw [hl] at h
        simp [catJ] at h ⊢
        exact h
theorem wide_catL {ns : List Nd} {l : List Int} {r : Int} {n : Nat} (h : CatW ns l r) (hw : ∀ x ∈ l, Wide ns n x) (hs : (l.map (catN ns)).sum ≤ n) (hn : 1 ≤ n) : Wide ns n r := by
  rcases h.2 with z | z | z | z
  · exact hw r z
  · refine ⟨⟨?_, by rw [mem_leaf (by omega)]; exact hn, by rw [mem_leaf (by omega)]; exact hn⟩, fun e => by omega⟩
    have := catLV_len (ns := ns) l
    unfold catN
    rw [h.1.2]
    omega
  · exact wide_small (by omega) (by omega) (by omega) (by omega) hn
  · exact wide_small (by omega) (by omega) (by omega) (by omega) hn
/- At most m times. -/
section
variable {ns : List Nd} (hc : Canon ns)
include hc
theorem join_not3 {e c r : Int} (he : isIn ns e) (ke : kd ns e = 1) (h : JoinR ns 4 [e, c] r) : kd ns r ≠ 3 := fun k3 => by
  have ht : topB ns 4 r = false := by
    cases q : topB ns 4 r with
    | false => rfl
    | true => have := topB_kind q; omega
  have hu : unitB ns 4 r = false := by
    cases q : unitB ns 4 r with
    | false => rfl
    | true => have := unitB_kind q; omega
  have hte : topB ns 4 e = false := by
    cases q : topB ns 4 e with
    | false => rfl
    | true => have := topB_kind q; omega
  have hue : unitB ns 4 e = false := by
    cases q : unitB ns 4 e with
    | false => rfl
    | true => have := unitB_kind q; omega
  have hv : view ns 4 e (.oth e) = true := (view_oth hc (Or.inl rfl) he hte hue (by omega)).2 (by rw [mem_leaf (by omega)]; simp)
  have hr : view ns 4 r (.oth e) = true := by
    rw [h.2]
    by_cases q : Shuts 4 (fun a => [e, c].any (fun x => view ns 4 x a))
    · exact clos_yes q _
    · rw [clos_no q]; simp [hv]
  have hm := (view_oth hc (Or.inl rfl) h.1 ht hu (by omega)).1 hr
  rw [mem_leaf (by omega)] at hm
  rw [List.mem_singleton.1 hm] at ke
  omega
omit hc in
theorem join_sub {e c r : Int} (h : JoinR ns 4 [e, c] r) (a : Atom) (ha : view ns 4 e a = true) : view ns 4 r a = true := by
  rw [h.2]
  by_cases q : Shuts 4 (fun a => [e, c].any (fun x => view ns 4 x a))
  · exact clos_yes q _
  · rw [clos_no q]; simp [ha]
omit hc in
theorem join_drop {e c r : Int} (h : JoinR ns 4 [e, c] r) (hs : ∀ a, view ns 4 e a = true → view ns 4 c a = true) : JoinR ns 4 [c] r :=
  ⟨h.1, fun a => by
    rw [h.2]
    exact clos_congr (fun a => by
      have := hs a
      simp only [List.any_cons, List.any_nil, Bool.or_false]
      cases q : view ns 4 e a
      · rfl
      · rw [this q]; rfl) a⟩
end
/-- x at most m times: what is known between two rounds. -/
structure UpI (ns : List Nd) (e : Int) (n : Nat) (f : List Nat → Tbl) (m : Nat) (id : Int) : Prop where
  inn : isIn ns id
  wide : Wide ns (n + 1) id
  no3 : kd ns id ≠ 3
  sub : ∀ a, view ns 4 e a = true → view ns 4 id a = true
  tab : TabR ns id (fun l => mayF (f l) (l.length + 1) m)
theorem UpI.start {ns : List Nd} (hc : Canon ns) {e : Int} {n : Nat} {f : List Nat → Tbl} (he : isIn ns e) (ke : kd ns e = 1) : UpI ns e n f 0 e :=
  ⟨he, wide_small (by omega) (by omega) (by omega) (by omega) (by omega), by omega, fun a h => h, tab_empty hc he ke⟩
theorem UpI.up {ns : List Nd} (hc : Canon ns) (more : List Nd) {e id : Int} {n m : Nat} {f : List Nat → Tbl} (he : isIn ns e) (h : UpI ns e n f m id) : UpI (ns ++ more) e n f m id :=
  ⟨h.inn.up more, h.wide.up hc.fine more h.inn, by rw [kd_up h.inn]; exact h.no3, fun a q => by
    rw [view_up hc.fine more (Or.inl rfl) he] at q
    rw [view_up hc.fine more (Or.inl rfl) h.inn]
    exact h.sub a q, h.tab.up h.inn more⟩
theorem up_cat {ns : List Nd} (hc : Canon ns) {e x id c : Int} {n m : Nat} {f : List Nat → Tbl} (hx : isIn ns x) (wx : Wide ns n x) (hn : 1 ≤ n) (h : UpI ns e n f m id) (hcat : CatR ns x id c) : Wide ns (n + 1) c ∧ (c = id ∨ (mem ns 4 c).length ≤ n) := by
  rcases cat_which hc hx h.inn hcat with rfl | rfl | k | k | k
  · exact ⟨wx.mono (by omega), Or.inr wx.1.2.1⟩
  · exact ⟨h.wide, Or.inl rfl⟩
  · refine ⟨⟨⟨?_, by rw [mem_leaf (by omega)]; exact Nat.le_add_left 1 n, by rw [mem_leaf (by omega)]; exact Nat.le_add_left 1 n⟩, fun q => by omega⟩, Or.inr (by rw [mem_leaf (by omega)]; exact hn)⟩
    have h1 := catN_le hcat
    have h2 := wx.1.1
    have h3 := catN_small h.no3
    omega
  · exact ⟨wide_small (by omega) (by omega) (by omega) (by omega) (by omega), Or.inr (by rw [mem_leaf (by omega)]; exact hn)⟩
  · exact ⟨wide_small (by omega) (by omega) (by omega) (by omega) (by omega), Or.inr (by rw [mem_leaf (by omega)]; exact hn)⟩
theorem up_mem {ns : List Nd} {e c : Int} {n : Nat} (ke : kd ns e = 1) (h : Wide ns (n + 1) c) : memN ns 4 [e, c] ≤ n + 2 := by
  have := h.1.2.1
  unfold memN
  rw [List.map_cons, List.map_cons, List.map_nil, List.sum_cons, List.sum_cons, List.sum_nil, mem_leaf (by omega)]
  simp
  omega
theorem UpI.step {ns : List Nd} (hc : Canon ns) {e x id c r : Int} {n m : Nat} {f : List Nat → Tbl} (he : isIn ns e) (ke : kd ns e = 1) (hx : isIn ns x) (wx : Wide ns n x) (hf : TabR ns x f) (hn : 1 ≤ n) (h : UpI ns e n f m id) (hcat : CatR ns x id c) (hj : JoinR ns 4 [e, c] r) : UpI ns e n f (m + 1) r := by
  obtain ⟨wc, hm⟩ := up_cat hc hx wx hn h hcat
  have hl : ∀ y ∈ [e, c], isIn ns y := fun y hy => by simp at hy; rcases hy with rfl | rfl; exact he; exact hcat.1
  have we : Wide ns (n + 1) e := wide_small (by omega) (by omega) (by omega) (by omega) (by omega)
  refine ⟨hj.1, ?_, join_not3 hc he ke hj, join_sub hj, tab_may hc hx h.inn he ke hcat hj hf h.tab⟩
  rcases hm with rfl | hm
  · refine wide_join hc (Or.inl rfl) (fun y hy => by rw [List.mem_singleton.1 hy]; exact h.inn) (join_drop hj h.sub) (fun y hy => by rw [List.mem_singleton.1 hy]; exact h.wide) ?_ (by omega)
    have := h.wide.1.2.1
    unfold memN
    simpa using this
  · refine wide_join hc (Or.inl rfl) hl hj (fun y hy => by simp at hy; rcases hy with rfl | rfl; exact we; exact wc) ?_ (by omega)
    unfold memN
    rw [List.map_cons, List.map_cons, List.map_nil, List.sum_cons, List.sum_cons, List.sum_nil, mem_leaf (by omega)]
    simp
    omega

end Go.Proofs.YtcghclikkeajfaaGreat
