/- What the program's class answers. -/
import Derived.Test.YtdcldhkpmihahaaMember
namespace Go.Proofs.Ytdcldhkpmihahaa
open Go.RowKit
set_option linter.unusedSimpArgs false
set_option linter.unusedVariables false

theorem or_put (c s : St) (b : Nat) : (c.or s).put b = c.or (s.put b) := by
  unfold St.put
  (repeat' split) <;> (unfold St.or; dsimp only; rw [Nat.or_assoc])
theorem or_zero (c : St) : c.or St.zero = c := by cases c; unfold St.or St.zero; simp
theorem puts_run (c : St) (a : Nat) : ∀ k, puts c a k = c.or (St.run a k)
  | 0 => (or_zero c).symm
  | k + 1 => by rw [puts, puts_run c a k, or_put]; rfl
theorem puts_one (c : St) (a : Nat) : puts c a 1 = c.or (St.zero.put a) := by rw [puts_run]; rfl
theorem mem_ok (t : ByteArray) : (memS t).1.Ok := by
  unfold memS
  (repeat' split)
  · exact emptyC_ok
  · exact emptyC_ok
  · exact St.run_ok _ _
  · exact St.put_ok St.zero_ok _
/-- A member, as it stands in a class: what it does to the rest of the class. -/
theorem mem_step (s : ByteArray) (i f : Nat) (c : St) (hi : i < s.size) (hb : ¬ bt s i = 93) :
    ∃ (x : St) (n : Nat), x.Ok ∧ memS (s.extract i s.size) = (x, (n : Int)) ∧ n ≤ 9 ∧ i + n ≤ s.size ∧ ((n = 0 ∧ classFrom s (f + 1) i c = none) ∨ (0 < n ∧ classFrom s (f + 1) i c = classFrom s f (i + n) (c.or x))) := by
  obtain ⟨a, n, ha, hal, hnl⟩ := char_nat s i ownC
  have hN : ¬ (s.size ≤ i ∨ bt s i = 93) := by omega
  have ha0 : charS (s.extract i s.size) 0 ownC = ((a : Int), (n : Int)) := by rw [char_drop s ownC i 0 (by omega)]; exact ha
  have hok := mem_ok (s.extract i s.size)
  by_cases hn0 : n = 0
  · subst hn0
    rw [mem_none ha0] at hok ⊢
    exact ⟨_, 0, hok, rfl, by omega, by omega, Or.inl ⟨rfl, classFrom_bad hN ha⟩⟩
  · have hin : i + n ≤ s.size := char_in ha (by omega)
    by_cases hd : i + n < s.size ∧ bt s (i + n) = 45
    · have hd0 : n < (s.extract i s.size).size ∧ bt (s.extract i s.size) n = 45 := ⟨by rw [drop_size]; omega, by rw [bt_drop s i n (by omega)]; exact hd.2⟩
      obtain ⟨b, m, hb', hbl, hml⟩ := char_nat s (i + n + 1) ownC
      have hb0 : charS (s.extract i s.size) (n + 1) ownC = ((b : Int), (m : Int)) := by rw [char_drop s ownC i (n + 1) (by omega)]; exact hb'
      by_cases hbad : (m : Int) = 0 ∨ (b : Int) < a
      · rw [mem_bad ha0 (by omega) hd0 hb0 hbad] at hok ⊢
        exact ⟨_, 0, hok, rfl, by omega, by omega, Or.inl ⟨rfl, classFrom_bad2 hN ha (by omega) hd hb' hbad⟩⟩
      · have hin2 : i + n + 1 + m ≤ s.size := char_in hb' (by omega)
        rw [mem_two ha0 (by omega) hd0 hb0 (by omega) (by omega)] at hok ⊢
        refine ⟨_, n + 1 + m, hok, by simp, by omega, by omega, Or.inr ⟨by omega, ?_⟩⟩
        rw [classFrom_two hN ha (by omega) hd hb' (by omega) (by omega), puts_run, show i + (n + 1 + m) = i + n + 1 + m by omega]
    · have hd0 : ¬ (n < (s.extract i s.size).size ∧ bt (s.extract i s.size) n = 45) := by rw [drop_size, bt_drop s i n (by omega)]; omega
      rw [mem_one ha0 (by omega) hd0] at hok ⊢
      exact ⟨_, n, hok, rfl, by omega, by omega, Or.inr ⟨by omega, by rw [classFrom_one hN ha (by omega) hd, puts_one]⟩⟩
theorem lexMemberV (t : ByteArray) (hs : t.size ≤ 20000) (x : St) (n : Nat) (h : memS t = (x, (n : Int))) (w : World) :
    Calls Try.prog 30 #[.string t] w fun e w' => e = .returned (.tuple #[.agg #[.int .u64 x.w0, .int .u64 x.w1, .int .u64 x.w2, .int .u64 x.w3], .int .i64 n]) ∧ Below w.heap.size w w' := by
  have := lexMember t hs w
  rw [h] at this
  exact this
theorem cells_later {w w1 : World} {g : Nat} {T : TypeId} {s : St} (h : SetAt w1 g T s) (o : Obj) :
    (w1.alloc o).cell? ⟨g, 0, none⟩ = some (.int .u64 s.w0) ∧ (w1.alloc o).cell? ⟨g, 1, none⟩ = some (.int .u64 s.w1) ∧ (w1.alloc o).cell? ⟨g, 2, none⟩ = some (.int .u64 s.w2) ∧ (w1.alloc o).cell? ⟨g, 3, none⟩ = some (.int .u64 s.w3) := SetAt.cells (h.alloc o)

set_option maxRecDepth 100000 in
set_option maxHeartbeats 8000000 in
theorem lexClassPlain (s : ByteArray) (hs : s.size ≤ 20000) (h0 : 0 < s.size) (hv : ¬ (1 < s.size ∧ bt s 1 = 94)) (w : World) :
    Calls Try.prog 15 #[.string s] w fun e w' => e = .returned (.tuple #[.agg (clsWords (classS s 0).1), .int .i64 (classS s 0).2]) ∧ Below w.heap.size w w' := by
  have HJ : Hid (¬ (0 + 1 < s.size ∧ bt s (0 + 1) = 94)) := Lib.hid hv
  have HJ2 : Hid (1 = if 0 + 1 < s.size ∧ bt s (0 + 1) = 94 then 0 + 2 else 0 + 1) := Lib.hid (by rw [if_neg HJ.out])
  have hin1 : 1 ≤ s.size := h0
  have HP : Hid (preS (s.extract 1 s.size) 0 (ByteArray.mk #[94]).data.toList = false) := Lib.hid (by
    show preS (s.extract 1 s.size) 0 [94] = _
    rw [pre_one, drop_size, bt_drop s 1 0 hin1, show (UInt8.toNat 94) = 94 from rfl, show 1 + 0 = 1 from rfl]
    exact decide_eq_false (by omega))
  obtain ⟨R, hR⟩ : ∃ R, classFrom s (s.size + 1) 1 emptyC = R := ⟨_, rfl⟩
  have HR := Lib.hid hR
  clear hR
  have hst : 1 ≤ s.size := by omega
  clear hv
  go_enter Try.func15, Try.ntmps15
  go_wp2_with fail
  refine (textPrefixV _ _ false HP.out _).mono ?_
  rintro e w1 ⟨rfl, rfl⟩
  go_wp2_with fail
  go_loopw [5] (fun i wr => ∃ (k : Nat) (c : St) (f : Nat), 1 ≤ k ∧ k ≤ s.size ∧ i = .int .i64 k ∧ c.Ok ∧ s.size < k + f ∧ Hid (classFrom s f k c = R) ∧ SetAt wr (w.heap.size + 1) 29 c ∧ SetAt wr w.heap.size 29 emptyC ∧ Below w.heap.size w wr) (fun i _ => s.size - (intOf i).toNat)
  case atStart =>
    refine ⟨1, emptyC, s.size + 1, by omega, hst, by go_num, emptyC_ok, by omega, HR, ?_, ?_, ?_⟩
    · have h := SetAt.new (w.alloc (.cells #[.int .u64 0, .int .u64 0, .int .u64 0, .int .u64 0] 29)) 29 emptyC
      simp only [World.size_alloc] at h
      exact h
    · exact (SetAt.new _ _ emptyC).alloc _
    · exact ((Below.refl _ _).alloc (Nat.le_refl _) _).alloc (by simp) _
  case round =>
    obtain ⟨k, c, f0, hpk, hk, rfl, hc, hf0, HF, hA, hZ, hB⟩ := hrel
    obtain ⟨f, rfl⟩ : ∃ f, f0 = f + 1 := ⟨f0 - 1, by omega⟩
    by_cases hlt : k < s.size
    · obtain ⟨b, hb⟩ : ∃ b, (s[k]'hlt).toNat = b := ⟨_, rfl⟩
      have hl : b < 256 := by rw [← hb]; exact UInt8.toNat_lt _
      have HBt : Hid (bt s k = b) := Lib.hid (by rw [← bt_is hlt]; exact hb)
      have kn1 : ((k : Int) == (s.size : Int)) = false := beq_eq_false_iff_ne.2 (by omega)
      have kn2 : (k == s.size) = false := beq_eq_false_iff_ne.2 (by omega)
      by_cases hb93 : b = 93
      · have HV : Hid (classS s 0 = (c, (k : Int) + 1)) := Lib.hid (by have := cls_is HJ.out (by rw [HR.out, ← HF.out, classFrom_end (Or.inr (by rw [HBt.out]; exact hb93))]) (by omega); rw [this]; simp)
        have g1 : ((b : Int) == 93) = true := by rw [beq_iff_eq]; omega
        have g2 : (b == 93) = true := by rw [beq_iff_eq]; omega
        have g3 : ((b : Int) != 93) = false := by rw [bne, g1]; rfl
        have g4 : (b != 93) = false := by rw [bne, g2]; rfl
        obtain ⟨x0, x1, x2, x3⟩ := hA.cells
        obtain ⟨y0, y1, y2, y3⟩ := hZ.frees
        obtain ⟨z0, z1, z2, z3⟩ := hZ.cells
        have HA := Lib.hid hA
        have HZ := Lib.hid hZ
        clear hA hZ
        go_wp2_with fail
        exact bodyPost_ret (results_row_tmp Try.results15 _ _ w.heap.size 29 _ (0, 0) _ rfl (HZ.out.store c) Try.underlying29 rfl (by kernel_rfl)) rfl ⟨by rw [HV.out]; rfl, below_store hB (Nat.le_refl _) c⟩
      · have g1 : ((b : Int) == 93) = false := beq_eq_false_iff_ne.2 (by omega)
        have g2 : (b == 93) = false := beq_eq_false_iff_ne.2 hb93
        have g3 : ((b : Int) != 93) = true := by rw [bne, g1]; rfl
        have g4 : (b != 93) = true := by rw [bne, g2]; rfl
        obtain ⟨x, n, hx, hm, hn9, hkn, hor⟩ := mem_step s k f c hlt (by rw [HBt.out]; exact hb93)
        have HM := Lib.hid hm
        have hsz : (s.extract k s.size).size ≤ 20000 := by rw [drop_size]; omega
        have HA := Lib.hid hA
        have HZ := Lib.hid hZ
        clear hA hZ hm
        rcases hor with ⟨rfl, hbad⟩ | ⟨hn0, hgo⟩
        · have HV : Hid (classS s 0 = (emptyC, 0)) := Lib.hid (cls_bad HJ2.out (by rw [HR.out, ← HF.out, hbad]))
          clear hbad
          go_wp2_with fail
          refine (lexMemberV _ hsz x 0 HM.out _).mono ?_
          rintro e w1 ⟨rfl, hb1⟩
          have HZ1 := Lib.hid (HZ.out.next hb1)
          have hB1 := hB.trans (hb1.mono hB.size)
          obtain ⟨y0, y1, y2, y3⟩ := HZ1.out.frees
          obtain ⟨z0, z1, z2, z3⟩ := HZ1.out.cells
          have hz0 : w.heap.size < w1.heap.size := HZ1.out.lt
          have yo0 := fun o => (SetAt.frees (HZ1.out.alloc o)).1
          have yo1 := fun o => (SetAt.frees (HZ1.out.alloc o)).2.1
          have yo2 := fun o => (SetAt.frees (HZ1.out.alloc o)).2.2.1
          have yo3 := fun o => (SetAt.frees (HZ1.out.alloc o)).2.2.2
          have zo0 := fun o => (SetAt.cells (HZ1.out.alloc o)).1
          have zo1 := fun o => (SetAt.cells (HZ1.out.alloc o)).2.1
          have zo2 := fun o => (SetAt.cells (HZ1.out.alloc o)).2.2.1
          have zo3 := fun o => (SetAt.cells (HZ1.out.alloc o)).2.2.2
          clear hb1
          go_wp2_with fail
          exact bodyPost_ret (results_row_tmp Try.results15 _ _ w.heap.size 29 _ (0, 0) _ rfl ((HZ1.out.store emptyC).alloc (.cells #[.int .u64 x.w0, .int .u64 x.w1, .int .u64 x.w2, .int .u64 x.w3] 29)) Try.underlying29 rfl (by kernel_rfl)) rfl ⟨by rw [HV.out]; rfl, (below_store hB1 (Nat.le_refl _) emptyC).alloc (below_store hB1 (Nat.le_refl _) emptyC).size (.cells #[.int .u64 x.w0, .int .u64 x.w1, .int .u64 x.w2, .int .u64 x.w3] 29)⟩
        · have HF2 : Hid (classFrom s f (k + n) (c.or x) = R) := Lib.hid (by rw [← hgo]; exact HF.out)
          have n1 : ((n : Int) == 0) = false := beq_eq_false_iff_ne.2 (by omega)
          have n2 : (n == 0) = false := beq_eq_false_iff_ne.2 (by omega)
          clear hgo
          go_wp2_with fail
          refine (lexMemberV _ hsz x n HM.out _).mono ?_
          rintro e w1 ⟨rfl, hb1⟩
          have HA1 := Lib.hid (HA.out.next hb1)
          have HZ1 := Lib.hid (HZ.out.next hb1)
          have hB1 := hB.trans (hb1.mono hB.size)
          have hz0 : w.heap.size + 1 < w1.heap.size := HA1.out.lt
          have zo0 := fun o => (SetAt.cells (HA1.out.alloc o)).1
          have zo1 := fun o => (SetAt.cells (HA1.out.alloc o)).2.1
          have zo2 := fun o => (SetAt.cells (HA1.out.alloc o)).2.2.1
          have zo3 := fun o => (SetAt.cells (HA1.out.alloc o)).2.2.2
          clear hb1
          go_wp2_with fail
          refine (setUnion c x hc hx _).mono ?_
          rintro e w2 ⟨rfl, hb2⟩
          have HA2 := Lib.hid ((HA1.out.alloc (.cells #[.int .u64 x.w0, .int .u64 x.w1, .int .u64 x.w2, .int .u64 x.w3] 29)).next hb2)
          have HZ2 := Lib.hid ((HZ1.out.alloc (.cells #[.int .u64 x.w0, .int .u64 x.w1, .int .u64 x.w2, .int .u64 x.w3] 29)).next hb2)
          have hB2 := (hB1.alloc hB1.size (.cells #[.int .u64 x.w0, .int .u64 x.w1, .int .u64 x.w2, .int .u64 x.w3] 29)).trans (hb2.mono (hB1.alloc hB1.size (.cells #[.int .u64 x.w0, .int .u64 x.w1, .int .u64 x.w2, .int .u64 x.w3] 29)).size)
          obtain ⟨d0, d1, d2, d3⟩ := HA2.out.cells
          obtain ⟨e0, e1, e2, e3⟩ := HA2.out.frees
          clear hb2 zo0 zo1 zo2 zo3
          go_wp2_with fail
          exact ⟨⟨k + n, c.or x, f, by omega, hkn, by go_num, St.or_ok hc hx, by omega, HF2, HA2.out.store _, HZ2.out.other (by omega) _, below_store hB2 (Nat.le_succ _) _⟩, by simp [intOf]; omega⟩
    · obtain rfl : k = s.size := by omega
      have HV : Hid (classS s 0 = (emptyC, 0)) := Lib.hid (cls_past HJ2.out (by rw [HR.out, ← HF.out, classFrom_end (Or.inl (by omega))]) (by omega))
      obtain ⟨y0, y1, y2, y3⟩ := hZ.frees
      obtain ⟨z0, z1, z2, z3⟩ := hZ.cells
      have HA := Lib.hid hA
      have HZ := Lib.hid hZ
      clear hA hZ
      go_wp2_with fail
      exact bodyPost_ret (results_row_tmp Try.results15 _ _ w.heap.size 29 _ (0, 0) _ rfl (HZ.out.store emptyC) Try.underlying29 rfl (by kernel_rfl)) rfl ⟨by rw [HV.out]; rfl, below_store hB (Nat.le_refl _) emptyC⟩

set_option maxRecDepth 100000 in
set_option maxHeartbeats 8000000 in
theorem lexClassNot (s : ByteArray) (hs : s.size ≤ 20000) (h0 : 0 < s.size) (hv : (1 < s.size ∧ bt s 1 = 94)) (w : World) :
    Calls Try.prog 15 #[.string s] w fun e w' => e = .returned (.tuple #[.agg (clsWords (classS s 0).1), .int .i64 (classS s 0).2]) ∧ Below w.heap.size w w' := by
  have HJ : Hid ((0 + 1 < s.size ∧ bt s (0 + 1) = 94)) := Lib.hid hv
  have HJ2 : Hid (2 = if 0 + 1 < s.size ∧ bt s (0 + 1) = 94 then 0 + 2 else 0 + 1) := Lib.hid (by rw [if_pos HJ.out])
  have hin1 : 1 ≤ s.size := h0
  have HP : Hid (preS (s.extract 1 s.size) 0 (ByteArray.mk #[94]).data.toList = true) := Lib.hid (by
    show preS (s.extract 1 s.size) 0 [94] = _
    rw [pre_one, drop_size, bt_drop s 1 0 hin1, show (UInt8.toNat 94) = 94 from rfl, show 1 + 0 = 1 from rfl]
    exact decide_eq_true (by omega))
  obtain ⟨R, hR⟩ : ∃ R, classFrom s (s.size + 1) 2 emptyC = R := ⟨_, rfl⟩
  have HR := Lib.hid hR
  clear hR
  have hst : 2 ≤ s.size := by omega
  clear hv
  go_enter Try.func15, Try.ntmps15
  go_wp2_with fail
  refine (textPrefixV _ _ true HP.out _).mono ?_
  rintro e w1 ⟨rfl, rfl⟩
  go_wp2_with fail
  go_loopw [5] (fun i wr => ∃ (k : Nat) (c : St) (f : Nat), 1 ≤ k ∧ k ≤ s.size ∧ i = .int .i64 k ∧ c.Ok ∧ s.size < k + f ∧ Hid (classFrom s f k c = R) ∧ SetAt wr (w.heap.size + 1) 29 c ∧ SetAt wr w.heap.size 29 emptyC ∧ Below w.heap.size w wr) (fun i _ => s.size - (intOf i).toNat)
  case atStart =>
    refine ⟨2, emptyC, s.size + 1, by omega, hst, by go_num, emptyC_ok, by omega, HR, ?_, ?_, ?_⟩
    · have h := SetAt.new (w.alloc (.cells #[.int .u64 0, .int .u64 0, .int .u64 0, .int .u64 0] 29)) 29 emptyC
      simp only [World.size_alloc] at h
      exact h
    · exact (SetAt.new _ _ emptyC).alloc _
    · exact ((Below.refl _ _).alloc (Nat.le_refl _) _).alloc (by simp) _
  case round =>
    obtain ⟨k, c, f0, hpk, hk, rfl, hc, hf0, HF, hA, hZ, hB⟩ := hrel
    obtain ⟨f, rfl⟩ : ∃ f, f0 = f + 1 := ⟨f0 - 1, by omega⟩
    by_cases hlt : k < s.size
    · obtain ⟨b, hb⟩ : ∃ b, (s[k]'hlt).toNat = b := ⟨_, rfl⟩
      have hl : b < 256 := by rw [← hb]; exact UInt8.toNat_lt _
      have HBt : Hid (bt s k = b) := Lib.hid (by rw [← bt_is hlt]; exact hb)
      have kn1 : ((k : Int) == (s.size : Int)) = false := beq_eq_false_iff_ne.2 (by omega)
      have kn2 : (k == s.size) = false := beq_eq_false_iff_ne.2 (by omega)
      by_cases hb93 : b = 93
      · have HV : Hid (classS s 0 = (c.not, (k : Int) + 1)) := Lib.hid (by have := cls_not HJ.out (by rw [HR.out, ← HF.out, classFrom_end (Or.inr (by rw [HBt.out]; exact hb93))]) (by omega); rw [this]; simp)
        have g1 : ((b : Int) == 93) = true := by rw [beq_iff_eq]; omega
        have g2 : (b == 93) = true := by rw [beq_iff_eq]; omega
        have g3 : ((b : Int) != 93) = false := by rw [bne, g1]; rfl
        have g4 : (b != 93) = false := by rw [bne, g2]; rfl
        obtain ⟨x0, x1, x2, x3⟩ := hA.cells
        obtain ⟨y0, y1, y2, y3⟩ := hZ.frees
        obtain ⟨z0, z1, z2, z3⟩ := hZ.cells
        have HA := Lib.hid hA
        have HZ := Lib.hid hZ
        clear hA hZ
        go_wp2_with fail
        refine (setNot c hc _).mono ?_
        rintro e w2 ⟨rfl, hb2⟩
        have HA2 := Lib.hid (HA.out.next hb2)
        have HZ2 := Lib.hid (HZ.out.next hb2)
        have hB2 := hB.trans (hb2.mono hB.size)
        clear x0 x1 x2 x3 y0 y1 y2 y3 z0 z1 z2 z3 hb2
        obtain ⟨d0, d1, d2, d3⟩ := HA2.out.cells
        obtain ⟨e0, e1, e2, e3⟩ := HA2.out.frees
        have HA3 := Lib.hid (HA2.out.store c.not)
        have HZ3 := Lib.hid (HZ2.out.other (show w.heap.size ≠ w.heap.size + 1 by omega) c.not)
        obtain ⟨x0, x1, x2, x3⟩ := HA3.out.cells
        obtain ⟨y0, y1, y2, y3⟩ := HZ3.out.frees
        obtain ⟨z0, z1, z2, z3⟩ := HZ3.out.cells
        go_wp2_with fail
        exact bodyPost_ret (results_row_tmp Try.results15 _ _ w.heap.size 29 _ (0, 0) _ rfl (HZ3.out.store c.not) Try.underlying29 rfl (by kernel_rfl)) rfl ⟨by rw [HV.out]; rfl, below_store (below_store hB2 (Nat.le_succ _) c.not) (Nat.le_refl _) c.not⟩
      · have g1 : ((b : Int) == 93) = false := beq_eq_false_iff_ne.2 (by omega)
        have g2 : (b == 93) = false := beq_eq_false_iff_ne.2 hb93
        have g3 : ((b : Int) != 93) = true := by rw [bne, g1]; rfl
        have g4 : (b != 93) = true := by rw [bne, g2]; rfl
        obtain ⟨x, n, hx, hm, hn9, hkn, hor⟩ := mem_step s k f c hlt (by rw [HBt.out]; exact hb93)
        have HM := Lib.hid hm
        have hsz : (s.extract k s.size).size ≤ 20000 := by rw [drop_size]; omega
        have HA := Lib.hid hA
        have HZ := Lib.hid hZ
        clear hA hZ hm
        rcases hor with ⟨rfl, hbad⟩ | ⟨hn0, hgo⟩
        · have HV : Hid (classS s 0 = (emptyC, 0)) := Lib.hid (cls_bad HJ2.out (by rw [HR.out, ← HF.out, hbad]))
          clear hbad
          go_wp2_with fail
          refine (lexMemberV _ hsz x 0 HM.out _).mono ?_
          rintro e w1 ⟨rfl, hb1⟩
          have HZ1 := Lib.hid (HZ.out.next hb1)
          have hB1 := hB.trans (hb1.mono hB.size)
          obtain ⟨y0, y1, y2, y3⟩ := HZ1.out.frees
          obtain ⟨z0, z1, z2, z3⟩ := HZ1.out.cells
          have hz0 : w.heap.size < w1.heap.size := HZ1.out.lt
          have yo0 := fun o => (SetAt.frees (HZ1.out.alloc o)).1
          have yo1 := fun o => (SetAt.frees (HZ1.out.alloc o)).2.1
          have yo2 := fun o => (SetAt.frees (HZ1.out.alloc o)).2.2.1
          have yo3 := fun o => (SetAt.frees (HZ1.out.alloc o)).2.2.2
          have zo0 := fun o => (SetAt.cells (HZ1.out.alloc o)).1
          have zo1 := fun o => (SetAt.cells (HZ1.out.alloc o)).2.1
          have zo2 := fun o => (SetAt.cells (HZ1.out.alloc o)).2.2.1
          have zo3 := fun o => (SetAt.cells (HZ1.out.alloc o)).2.2.2
          clear hb1
          go_wp2_with fail
          exact bodyPost_ret (results_row_tmp Try.results15 _ _ w.heap.size 29 _ (0, 0) _ rfl ((HZ1.out.store emptyC).alloc (.cells #[.int .u64 x.w0, .int .u64 x.w1, .int .u64 x.w2, .int .u64 x.w3] 29)) Try.underlying29 rfl (by kernel_rfl)) rfl ⟨by rw [HV.out]; rfl, (below_store hB1 (Nat.le_refl _) emptyC).alloc (below_store hB1 (Nat.le_refl _) emptyC).size (.cells #[.int .u64 x.w0, .int .u64 x.w1, .int .u64 x.w2, .int .u64 x.w3] 29)⟩
        · have HF2 : Hid (classFrom s f (k + n) (c.or x) = R) := Lib.hid (by rw [← hgo]; exact HF.out)
          have n1 : ((n : Int) == 0) = false := beq_eq_false_iff_ne.2 (by omega)
          have n2 : (n == 0) = false := beq_eq_false_iff_ne.2 (by omega)
          clear hgo
          go_wp2_with fail
          refine (lexMemberV _ hsz x n HM.out _).mono ?_
          rintro e w1 ⟨rfl, hb1⟩
          have HA1 := Lib.hid (HA.out.next hb1)
          have HZ1 := Lib.hid (HZ.out.next hb1)
          have hB1 := hB.trans (hb1.mono hB.size)
          have hz0 : w.heap.size + 1 < w1.heap.size := HA1.out.lt
          have zo0 := fun o => (SetAt.cells (HA1.out.alloc o)).1
          have zo1 := fun o => (SetAt.cells (HA1.out.alloc o)).2.1
          have zo2 := fun o => (SetAt.cells (HA1.out.alloc o)).2.2.1
          have zo3 := fun o => (SetAt.cells (HA1.out.alloc o)).2.2.2
          clear hb1
          go_wp2_with fail
          refine (setUnion c x hc hx _).mono ?_
          rintro e w2 ⟨rfl, hb2⟩
          have HA2 := Lib.hid ((HA1.out.alloc (.cells #[.int .u64 x.w0, .int .u64 x.w1, .int .u64 x.w2, .int .u64 x.w3] 29)).next hb2)
          have HZ2 := Lib.hid ((HZ1.out.alloc (.cells #[.int .u64 x.w0, .int .u64 x.w1, .int .u64 x.w2, .int .u64 x.w3] 29)).next hb2)
          have hB2 := (hB1.alloc hB1.size (.cells #[.int .u64 x.w0, .int .u64 x.w1, .int .u64 x.w2, .int .u64 x.w3] 29)).trans (hb2.mono (hB1.alloc hB1.size (.cells #[.int .u64 x.w0, .int .u64 x.w1, .int .u64 x.w2, .int .u64 x.w3] 29)).size)
          obtain ⟨d0, d1, d2, d3⟩ := HA2.out.cells
          obtain ⟨e0, e1, e2, e3⟩ := HA2.out.frees
          clear hb2 zo0 zo1 zo2 zo3
          go_wp2_with fail
          exact ⟨⟨k + n, c.or x, f, by omega, hkn, by go_num, St.or_ok hc hx, by omega, HF2, HA2.out.store _, HZ2.out.other (by omega) _, below_store hB2 (Nat.le_succ _) _⟩, by simp [intOf]; omega⟩
    · obtain rfl : k = s.size := by omega
      have HV : Hid (classS s 0 = (emptyC, 0)) := Lib.hid (cls_past HJ2.out (by rw [HR.out, ← HF.out, classFrom_end (Or.inl (by omega))]) (by omega))
      obtain ⟨y0, y1, y2, y3⟩ := hZ.frees
      obtain ⟨z0, z1, z2, z3⟩ := hZ.cells
      have HA := Lib.hid hA
      have HZ := Lib.hid hZ
      clear hA hZ
      go_wp2_with fail
      exact bodyPost_ret (results_row_tmp Try.results15 _ _ w.heap.size 29 _ (0, 0) _ rfl (HZ.out.store emptyC) Try.underlying29 rfl (by kernel_rfl)) rfl ⟨by rw [HV.out]; rfl, below_store hB (Nat.le_refl _) emptyC⟩

theorem lexClass (s : ByteArray) (hs : s.size ≤ 20000) (h0 : 0 < s.size) (w : World) :
    Calls Try.prog 15 #[.string s] w fun e w' => e = .returned (.tuple #[.agg (clsWords (classS s 0).1), .int .i64 (classS s 0).2]) ∧ Below w.heap.size w w' := by
  by_cases h : 1 < s.size ∧ bt s 1 = 94
  · exact lexClassNot s hs h0 h w
  · exact lexClassPlain s hs h0 h w
end Go.Proofs.Ytdcldhkpmihahaa
