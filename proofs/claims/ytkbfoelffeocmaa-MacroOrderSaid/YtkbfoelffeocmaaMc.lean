/- Joined: With, SetOf, Range, Union, Member, LexClass, WordSpec. -/
import Derived.Test.YtkbfoelffeocmaaProg
import Derived.Test.YtkbfoelffeocmaaMa
import Derived.Test.YtkbfoelffeocmaaRefHas
import Derived.RegionTactic
import Derived.BigRegion
import Derived.LoopN
import Derived.Test.YtkbfoelffeocmaaMb
/- What set.with answers: the set and one byte more. -/
namespace Go.Proofs.Ytkbfoelffeocmaa
open Go.RowKit

set_option maxHeartbeats 1000000 in
theorem setWith (s : St) (hs : s.Ok) (b : Nat) (hb : b < 256) (w : World) :
    Calls Try.prog 46 #[.agg #[.int .u64 s.w0, .int .u64 s.w1, .int .u64 s.w2, .int .u64 s.w3], .int .u8 b] w fun e w' =>
      e = .returned (.agg #[.int .u64 (s.put b).w0, .int .u64 (s.put b).w1, .int .u64 (s.put b).w2, .int .u64 (s.put b).w3]) ∧ Below w.heap.size w w' := by
  obtain ⟨r, hr⟩ : ∃ r : Nat, r = b % 64 := ⟨_, rfl⟩
  have hm : (b : Int) % 64 = r := by omega
  have hq : b / 64 = 0 ∨ b / 64 = 1 ∨ b / 64 = 2 ∨ b / 64 = 3 := by omega
  have hr' : r < 64 := by omega
  have hS := shl_pw r hr'
  rcases hq with hq | hq | hq | hq
  · have hd : (b : Int) / 64 = 0 := by omega
    have HR := Lib.hid (put_at0 s b r hq hr)
    have hb0 := bits_or s.w0 (pw r) hs.o0 (pw_u64 r hr')
    clear hr hq
    go_enter Try.func46, Try.ntmps46
    go_wp2
    rw [HR.out]
    refine bodyPost_ret (v := .agg #[.int .u64 (s.w0 ||| pw r : Nat), .int .u64 s.w1, .int .u64 s.w2, .int .u64 s.w3]) (by simp [results, Try.results46, go_sem]) rfl ⟨rfl, ?_⟩
    repeat (first | exact Below.refl _ _ | refine Below.drew ?_ | refine Below.alloc ?_ (by simp; try omega) _)
  · have hd : (b : Int) / 64 = 1 := by omega
    have HR := Lib.hid (put_at1 s b r hq hr)
    have hb1 := bits_or s.w1 (pw r) hs.o1 (pw_u64 r hr')
    clear hr hq
    go_enter Try.func46, Try.ntmps46
    go_wp2
    rw [HR.out]
    refine bodyPost_ret (v := .agg #[.int .u64 s.w0, .int .u64 (s.w1 ||| pw r : Nat), .int .u64 s.w2, .int .u64 s.w3]) (by simp [results, Try.results46, go_sem]) rfl ⟨rfl, ?_⟩
    repeat (first | exact Below.refl _ _ | refine Below.drew ?_ | refine Below.alloc ?_ (by simp; try omega) _)
  · have hd : (b : Int) / 64 = 2 := by omega
    have HR := Lib.hid (put_at2 s b r hq hr)
    have hb2 := bits_or s.w2 (pw r) hs.o2 (pw_u64 r hr')
    clear hr hq
    go_enter Try.func46, Try.ntmps46
    go_wp2
    rw [HR.out]
    refine bodyPost_ret (v := .agg #[.int .u64 s.w0, .int .u64 s.w1, .int .u64 (s.w2 ||| pw r : Nat), .int .u64 s.w3]) (by simp [results, Try.results46, go_sem]) rfl ⟨rfl, ?_⟩
    repeat (first | exact Below.refl _ _ | refine Below.drew ?_ | refine Below.alloc ?_ (by simp; try omega) _)
  · have hd : (b : Int) / 64 = 3 := by omega
    have HR := Lib.hid (put_at3 s b r hq hr)
    have hb3 := bits_or s.w3 (pw r) hs.o3 (pw_u64 r hr')
    clear hr hq
    go_enter Try.func46, Try.ntmps46
    go_wp2
    rw [HR.out]
    refine bodyPost_ret (v := .agg #[.int .u64 s.w0, .int .u64 s.w1, .int .u64 s.w2, .int .u64 (s.w3 ||| pw r : Nat)]) (by simp [results, Try.results46, go_sem]) rfl ⟨rfl, ?_⟩
    repeat (first | exact Below.refl _ _ | refine Below.drew ?_ | refine Below.alloc ?_ (by simp; try omega) _)

end Go.Proofs.Ytkbfoelffeocmaa

/- What set.Of answers: the set of the bytes of its list. -/
namespace Go.Proofs.Ytkbfoelffeocmaa
open Go.RowKit

def St.zero : St := ⟨0, 0, 0, 0⟩
theorem u64_32 : U64 32 := by unfold U64; omega
theorem u64_zero : U64 0 := by unfold U64; omega
theorem St.zero_ok : St.zero.Ok := ⟨u64_zero, u64_zero, u64_zero, u64_zero⟩
/-- The set of the first k bytes of a list. -/
def St.ofTake (l : List Nat) (k : Nat) : St := (l.take k).foldl St.put St.zero
theorem fold_ok (l : List Nat) : ∀ s : St, s.Ok → (l.foldl St.put s).Ok := by
  induction l with
  | nil => exact fun s h => h
  | cons x r ih => exact fun s h => ih _ (St.put_ok h x)
theorem St.ofTake_ok (l : List Nat) (k : Nat) : (St.ofTake l k).Ok := fold_ok _ _ St.zero_ok
theorem St.ofTake_succ (l : List Nat) (k : Nat) (h : k < l.length) : St.ofTake l (k + 1) = (St.ofTake l k).put l[k] := by
  unfold St.ofTake; rw [List.take_succ_eq_append_getElem h, List.foldl_append]; rfl
theorem St.ofTake_zero (l : List Nat) : St.ofTake l 0 = St.zero := by unfold St.ofTake; simp
theorem St.ofTake_all (l : List Nat) : St.ofTake l l.length = l.foldl St.put St.zero := by unfold St.ofTake; simp

set_option maxHeartbeats 1000000 in
theorem setOf (l : List Nat) (A : Option Addr) (n c : Nat) (w : World) (h : IsBytes w A n l) :
    Calls Try.prog 30 #[.slice A n c] w fun e w' =>
      e = .returned (.agg #[.int .u64 (l.foldl St.put St.zero).w0, .int .u64 (l.foldl St.put St.zero).w1, .int .u64 (l.foldl St.put St.zero).w2, .int .u64 (l.foldl St.put St.zero).w3]) ∧ Below w.heap.size w w' := by
  have HB := Lib.hid h
  have hm := h.2.1
  clear h
  go_enter Try.func30, Try.ntmps30
  go_wp2
  go_loopw [8] (fun i wr => ∃ k : Nat, k ≤ n ∧ i = .int .i64 k ∧ SetAt wr (w.heap.size + 1) 31 (St.ofTake l k) ∧ SetAt wr w.heap.size 31 St.zero ∧ Below w.heap.size w wr) (fun i _ => n - (intOf i).toNat)
  case atStart =>
    refine ⟨0, Nat.zero_le _, rfl, ?_, ?_, ?_⟩
    · rw [St.ofTake_zero]
      have h := At.new (w.alloc (.cells #[.int .u64 0, .int .u64 0, .int .u64 0, .int .u64 0] 31)) 31 #[.int .u64 0, .int .u64 0, .int .u64 0, .int .u64 0]
      simp only [World.size_alloc] at h
      exact h
    · exact (At.new _ _ _).alloc _
    · exact ((Below.refl _ _).alloc (Nat.le_refl _) _).alloc (by simp) _
  case round =>
    obtain ⟨k, hk, rfl, hs, hz, hB⟩ := hrel
    by_cases hlt : k < n
    · have hl : k < l.length := by have := HB.out.1; omega
      obtain ⟨b, off, rfl, hb, hc⟩ := HB.out.2.2.2 (by omega)
      have hcell := (bcell hB).1 b (off + k) hb
      rw [hc k hl] at hcell
      obtain ⟨c0, c1, c2, c3⟩ := hs.cells
      have hbl := HB.out.2.2.1 k hl
      have HS := Lib.hid hs
      have HZ := Lib.hid hz
      have HP := Lib.hid (St.ofTake_succ l k hl)
      clear hs hz hc hb
      obtain ⟨x, hx⟩ : ∃ x : Nat, x = l[k] := ⟨_, rfl⟩
      rw [← hx] at hcell hbl
      have HX := Lib.hid hx
      clear hx
      go_wp2_with fail
      refine (setWith (St.ofTake l k) (St.ofTake_ok l k) x hbl _).mono ?_
      rintro e w1 ⟨rfl, hb1⟩
      have HS1 := Lib.hid (HS.out.next hb1)
      have HZ1 := Lib.hid (HZ.out.next hb1)
      obtain ⟨d0, d1, d2, d3⟩ := HS1.out.cells
      obtain ⟨f0, f1, f2, f3⟩ := HS1.out.frees
      have hB1 := hB.trans (hb1.mono hB.size)
      clear hcell c0 c1 c2 c3
      go_wp2_with fail
      exact ⟨⟨k + 1, by omega, by go_num, by rw [HP.out, ← HX.out]; exact HS1.out.store _, HZ1.out.other (by omega) _, below_store hB1 (Nat.le_succ _) _⟩, by simp [intOf]; omega⟩
    · have hkl : k = n := by omega
      subst hkl
      have he := HB.out.1
      rw [he, St.ofTake_all] at hs
      clear he
      obtain ⟨d0, d1, d2, d3⟩ := hs.cells
      obtain ⟨f0, f1, f2, f3⟩ := hz.frees
      obtain ⟨e0, e1, e2, e3⟩ := hz.cells
      have HS := Lib.hid hs
      have HZ := Lib.hid hz
      clear hs hz
      go_wp2
      exact bodyPost_ret (results_cell_row Try.results30 _ _ w.heap.size 31 _ (0, 0) _ rfl (HZ.out.store _) Try.underlying31 rfl (by kernel_rfl)) rfl ⟨rfl, below_store hB (Nat.le_refl _) _⟩

end Go.Proofs.Ytkbfoelffeocmaa

/- What set.Range answers: all bytes from the one to the other. -/
namespace Go.Proofs.Ytkbfoelffeocmaa
open Go.RowKit

/-- The bytes lo to lo + n - 1. -/
def St.run (lo : Nat) : Nat → St
  | 0 => St.zero
  | n + 1 => (St.run lo n).put (lo + n)
theorem St.run_ok (lo n : Nat) : (St.run lo n).Ok := by
  induction n with
  | zero => exact St.zero_ok
  | succ n ih => exact St.put_ok ih _

set_option maxHeartbeats 1000000 in
theorem setRange (lo hi : Nat) (hlo : lo < 256) (hhi : hi < 256) (w : World) :
    Calls Try.prog 62 #[.int .u8 lo, .int .u8 hi] w fun e w' =>
      e = .returned (.agg #[.int .u64 (St.run lo (hi + 1 - lo)).w0, .int .u64 (St.run lo (hi + 1 - lo)).w1, .int .u64 (St.run lo (hi + 1 - lo)).w2, .int .u64 (St.run lo (hi + 1 - lo)).w3]) ∧ Below w.heap.size w w' := by
  have hl8 : IntKind.i64.wrap (lo : Int) = (lo : Int) := by rw [IntKind.wrap_i64]; omega
  have hh8 : IntKind.i64.wrap (hi : Int) = (hi : Int) := by rw [IntKind.wrap_i64]; omega
  go_enter Try.func62, Try.ntmps62
  go_wp2
  go_loopw [6] (fun i wr => ∃ n : Nat, n ≤ hi + 1 - lo ∧ i = .int .i64 ((lo + n : Nat) : Int) ∧ SetAt wr (w.heap.size + 1) 31 (St.run lo n) ∧ SetAt wr w.heap.size 31 St.zero ∧ Below w.heap.size w wr) (fun i _ => 600 - (intOf i).toNat)
  case atStart =>
    refine ⟨0, Nat.zero_le _, by simp, ?_, ?_, ?_⟩
    · have h := SetAt.new (w.alloc (.cells #[.int .u64 0, .int .u64 0, .int .u64 0, .int .u64 0] 31)) 31 St.zero
      simp only [World.size_alloc] at h
      exact h
    · exact (SetAt.new _ _ St.zero).alloc _
    · exact ((Below.refl _ _).alloc (Nat.le_refl _) _).alloc (by simp) _
  case round =>
    obtain ⟨n, hn, rfl, hs, hz, hB⟩ := hrel
    obtain ⟨x, hx⟩ : ∃ x : Nat, x = lo + n := ⟨_, rfl⟩
    rw [← hx]
    have HX := Lib.hid hx
    by_cases hlt : n < hi + 1 - lo
    · have hx256 : x < 256 := by omega
      have hxhi : x ≤ hi := by omega
      have hw8 : IntKind.u8.wrap (x : Int) = (x : Int) := by rw [IntKind.wrap_u8']; omega
      clear hx
      obtain ⟨c0, c1, c2, c3⟩ := hs.cells
      have HS := Lib.hid hs
      have HZ := Lib.hid hz
      clear hs hz
      go_wp2_with fail
      refine (setWith (St.run lo n) (St.run_ok lo n) x hx256 _).mono ?_
      rintro e w1 ⟨rfl, hb1⟩
      have HS1 := Lib.hid (HS.out.next hb1)
      have HZ1 := Lib.hid (HZ.out.next hb1)
      obtain ⟨d0, d1, d2, d3⟩ := HS1.out.cells
      obtain ⟨f0, f1, f2, f3⟩ := HS1.out.frees
      have hB1 := hB.trans (hb1.mono hB.size)
      clear c0 c1 c2 c3
      go_wp2_with fail
      exact ⟨⟨n + 1, by omega, by rw [show ((lo + (n + 1) : Nat) : Int) = (x : Int) + 1 from by have := HX.out; omega], by show SetAt _ _ _ ((St.run lo n).put (lo + n)); rw [← HX.out]; exact HS1.out.store _, HZ1.out.other (by omega) _, below_store hB1 (Nat.le_succ _) _⟩, by simp [intOf]; omega⟩
    · have hxhi : hi < x := by omega
      have hnn : n = hi + 1 - lo := by omega
      clear hx
      obtain ⟨d0, d1, d2, d3⟩ := hs.cells
      obtain ⟨f0, f1, f2, f3⟩ := hz.frees
      obtain ⟨e0, e1, e2, e3⟩ := hz.cells
      have HS := Lib.hid hs
      have HZ := Lib.hid hz
      have HN := Lib.hid hnn
      clear hs hz hnn
      go_wp2
      exact bodyPost_ret (results_cell_row Try.results62 _ _ w.heap.size 31 _ (0, 0) _ rfl (HZ.out.store _) Try.underlying31 rfl (by kernel_rfl)) rfl ⟨by rw [← HN.out], below_store hB (Nat.le_refl _) _⟩

end Go.Proofs.Ytkbfoelffeocmaa

/- What set.Union and Not answer, of any sets. -/
namespace Go.Proofs.Ytkbfoelffeocmaa
open Go.RowKit

set_option maxHeartbeats 1000000 in
theorem setUnion (s t : St) (hs : s.Ok) (ht : t.Ok) (w : World) :
    Calls Try.prog 49 #[.agg #[.int .u64 s.w0, .int .u64 s.w1, .int .u64 s.w2, .int .u64 s.w3], .agg #[.int .u64 t.w0, .int .u64 t.w1, .int .u64 t.w2, .int .u64 t.w3]] w fun e w' =>
      e = .returned (.agg #[.int .u64 (s.or t).w0, .int .u64 (s.or t).w1, .int .u64 (s.or t).w2, .int .u64 (s.or t).w3]) ∧ Below w.heap.size w w' := by
  have b0 := bits_or s.w0 t.w0 hs.o0 ht.o0
  have b1 := bits_or s.w1 t.w1 hs.o1 ht.o1
  have b2 := bits_or s.w2 t.w2 hs.o2 ht.o2
  have b3 := bits_or s.w3 t.w3 hs.o3 ht.o3
  go_enter Try.func49, Try.ntmps49
  go_wp2
  refine wp_loop_rounds 5 ?_
  iterate 4
    rw [rounds_succ]
    go_wp2
    go_region
    go_wp2
  rw [rounds_succ]
  go_wp2
  refine bodyPost_ret (v := .agg #[.int .u64 (s.or t).w0, .int .u64 (s.or t).w1, .int .u64 (s.or t).w2, .int .u64 (s.or t).w3]) (by simp [results, Try.results49, go_sem, St.or]) rfl ⟨rfl, ?_⟩
  repeat (first | exact Below.refl _ _ | refine Below.drew ?_ | refine Below.alloc ?_ (by simp; try omega) _)

set_option maxHeartbeats 1000000 in
theorem setNot (s : St) (hs : s.Ok) (w : World) :
    Calls Try.prog 32 #[.agg #[.int .u64 s.w0, .int .u64 s.w1, .int .u64 s.w2, .int .u64 s.w3]] w fun e w' =>
      e = .returned (.agg #[.int .u64 s.not.w0, .int .u64 s.not.w1, .int .u64 s.not.w2, .int .u64 s.not.w3]) ∧ Below w.heap.size w w' := by
  have b0 := bits_not s.w0 hs.o0
  have b1 := bits_not s.w1 hs.o1
  have b2 := bits_not s.w2 hs.o2
  have b3 := bits_not s.w3 hs.o3
  go_enter Try.func32, Try.ntmps32
  go_wp2
  refine wp_loop_rounds 5 ?_
  iterate 4
    rw [rounds_succ]
    go_wp2
  rw [rounds_succ]
  go_wp2
  refine bodyPost_ret (v := .agg #[.int .u64 s.not.w0, .int .u64 s.not.w1, .int .u64 s.not.w2, .int .u64 s.not.w3]) (by simp [results, Try.results32, go_sem, St.not]) rfl ⟨rfl, ?_⟩
  repeat (first | exact Below.refl _ _ | refine Below.drew ?_ | refine Below.alloc ?_ (by simp; try omega) _)

end Go.Proofs.Ytkbfoelffeocmaa

/- What the program's member answers: the bytes of what stands at a text's begin, within a class. -/
namespace Go.Proofs.Ytkbfoelffeocmaa
open Go.RowKit
set_option linter.unusedSimpArgs false
set_option linter.unusedVariables false

theorem setOf1 (b : Nat) (hb : b < 256) (W : World) (g : Nat) (h : At W g 5 #[.int .u8 b]) :
    Calls Try.prog 30 #[.slice (some ⟨g, 0, none⟩) 1 1] W fun e w' => e = .returned (.agg #[.int .u64 (St.zero.put b).w0, .int .u64 (St.zero.put b).w1, .int .u64 (St.zero.put b).w2, .int .u64 (St.zero.put b).w3]) ∧ Below W.heap.size W w' :=
  setOf [b] _ 1 1 W ⟨rfl, by omega, by intro k hk; simp at hk; subst hk; exact hb, fun _ => ⟨g, 0, rfl, h.lt, by intro k hk; simp at hk; subst hk; exact h.cell 0⟩⟩
theorem lexSingleV (t : ByteArray) (hs : t.size ≤ 20000) (a n : Nat) (h : charS t 0 ownC = ((a : Int), (n : Int))) (w : World) :
    Calls Try.prog 61 #[.string t] w fun e w' => e = .returned (.tuple #[.int .u8 a, .int .i64 n]) ∧ ∃ n, w' = w.drewN n := by
  have := lexSingle t hs w
  rw [h] at this
  exact this
/-- The bytes of what stands at the begin, and how many bytes it takes. -/
def memS (t : ByteArray) : St × Int :=
  if (charS t 0 ownC).2 = 0 then (emptyC, 0)
  else if (charS t 0 ownC).2.toNat < t.size ∧ bt t (charS t 0 ownC).2.toNat = 45 then
    (if (charS t ((charS t 0 ownC).2.toNat + 1) ownC).2 = 0 ∨ (charS t ((charS t 0 ownC).2.toNat + 1) ownC).1 < (charS t 0 ownC).1 then (emptyC, 0)
     else (St.run (charS t 0 ownC).1.toNat ((charS t ((charS t 0 ownC).2.toNat + 1) ownC).1.toNat + 1 - (charS t 0 ownC).1.toNat), (charS t 0 ownC).2 + 1 + (charS t ((charS t 0 ownC).2.toNat + 1) ownC).2))
  else (St.zero.put (charS t 0 ownC).1.toNat, (charS t 0 ownC).2)
theorem mem_none {t : ByteArray} {a : Int} (ha : charS t 0 ownC = (a, 0)) : memS t = (emptyC, 0) := by unfold memS; rw [ha, if_pos rfl]
theorem mem_one {t : ByteArray} {a n : Nat} (ha : charS t 0 ownC = ((a : Int), (n : Int))) (hn : 0 < n) (hd : ¬ (n < t.size ∧ bt t n = 45)) : memS t = (St.zero.put a, (n : Int)) := by
  unfold memS; rw [ha]; dsimp only; rw [if_neg (by omega), Int.toNat_natCast, Int.toNat_natCast, if_neg hd]
theorem mem_bad {t : ByteArray} {a n : Nat} {b m : Int} (ha : charS t 0 ownC = ((a : Int), (n : Int))) (hn : 0 < n) (hd : n < t.size ∧ bt t n = 45) (hb : charS t (n + 1) ownC = (b, m)) (e : m = 0 ∨ b < a) : memS t = (emptyC, 0) := by
  unfold memS; rw [ha]; dsimp only; rw [if_neg (by omega), Int.toNat_natCast, if_pos hd, hb, if_pos e]
theorem mem_two {t : ByteArray} {a n b m : Nat} (ha : charS t 0 ownC = ((a : Int), (n : Int))) (hn : 0 < n) (hd : n < t.size ∧ bt t n = 45) (hb : charS t (n + 1) ownC = ((b : Int), (m : Int))) (hm : 0 < m) (hab : a ≤ b) :
    memS t = (St.run a (b + 1 - a), (n : Int) + 1 + m) := by
  unfold memS; rw [ha]; dsimp only; rw [if_neg (by omega), Int.toNat_natCast, Int.toNat_natCast, if_pos hd, hb]; dsimp only; rw [if_neg (by omega), Int.toNat_natCast]
theorem pre_one (t : ByteArray) (i : Nat) (a : UInt8) : preS t i [a] = decide (i < t.size ∧ bt t i = a.toNat) := by unfold preS; simp [preS]

set_option maxRecDepth 100000 in
set_option maxHeartbeats 4000000 in
theorem lexMember (t : ByteArray) (hs : t.size ≤ 20000) (w : World) :
    Calls Try.prog 48 #[.string t] w fun e w' => e = .returned (.tuple #[.agg (clsWords (memS t).1), .int .i64 (memS t).2]) ∧ Below w.heap.size w w' := by
  obtain ⟨a, n, ha, hal, hnl⟩ := char_nat t 0 ownC
  have HC := Lib.hid ha
  by_cases hn0 : n = 0
  · subst hn0
    have HV : Hid (memS t = (emptyC, 0)) := Lib.hid (mem_none HC.out)
    clear ha
    go_enter Try.func48, Try.ntmps48
    go_wp2_with fail
    refine (lexSingleV t hs a 0 HC.out _).mono ?_
    rintro e w1 ⟨rfl, q, rfl⟩
    go_wp2_with fail
    refine bodyPost_ret (v := .tuple #[.agg (clsWords emptyC), .int .i64 0]) (by simp [results, Try.results48, go_sem, clsWords, emptyC]) rfl ⟨by rw [HV.out], ?_⟩
    exact below_store (below_drew ((Below.refl _ w).alloc (Nat.le_refl _) _) q) (Nat.le_refl _) emptyC
  · have hin : n ≤ t.size := by have := char_in HC.out (by omega); omega
    have m1 : ((n : Int) == 0) = false := beq_eq_false_iff_ne.2 (by omega)
    have m2 : (n == 0) = false := beq_eq_false_iff_ne.2 hn0
    have dz : decide ((n : Int) ≤ (t.size : Int)) = true := txt_t (by omega)
    clear ha
    have hpre : preS (t.extract n t.size) 0 (ByteArray.mk #[45]).data.toList = decide (n < t.size ∧ bt t n = 45) := by
      show preS (t.extract n t.size) 0 [45] = _
      rw [pre_one, drop_size, bt_drop t n 0 hin]
      rw [show n + 0 = n from rfl, show (UInt8.toNat 45) = 45 from rfl]
      rw [decide_eq_decide]; omega
    by_cases hd : n < t.size ∧ bt t n = 45
    · rw [decide_eq_true hd] at hpre
      have HD := Lib.hid hd
      have HP := Lib.hid hpre
      clear hpre
      obtain ⟨b, m, hb, hbl, hml⟩ := char_nat t (n + 1) ownC
      have HB := Lib.hid hb
      have HB2 : Hid (charS (t.extract (n + 1) t.size) 0 ownC = ((b : Int), (m : Int))) := Lib.hid (by rw [char_drop t ownC (n + 1) 0 (by omega)]; exact hb)
      clear hb hd
      have dz2 : decide ((n : Int) + 1 ≤ (t.size : Int)) = true := txt_t (by have := HD.out; omega)
      have hin2 : n + 1 ≤ t.size := by have := HD.out; omega
      have hsz : (t.extract (n + 1) t.size).size ≤ 20000 := by rw [drop_size]; omega
      have hbad : (m : Int) = 0 ∨ (b : Int) < a → Hid (memS t = (emptyC, 0)) := fun h => Lib.hid (mem_bad HC.out (by omega) HD.out HB.out h)
      by_cases hm0 : m = 0
      · have HV := hbad (Or.inl (by omega))
        subst hm0
        go_enter Try.func48, Try.ntmps48
        go_wp2_with fail
        refine (lexSingleV t hs a n HC.out _).mono ?_
        rintro e w1 ⟨rfl, q, rfl⟩
        go_wp2_with fail
        refine (textPrefixV _ _ true HP.out _).mono ?_
        rintro e w1 ⟨rfl, rfl⟩
        go_wp2_with fail
        refine (lexSingleV _ hsz b 0 HB2.out _).mono ?_
        rintro e w1 ⟨rfl, q2, rfl⟩
        go_wp2_with fail
        refine bodyPost_ret (v := .tuple #[.agg (clsWords emptyC), .int .i64 0]) (by simp [results, Try.results48, go_sem, clsWords, emptyC]) rfl ⟨by rw [HV.out], ?_⟩
        exact below_store (below_drew ((Below.refl _ w).alloc (Nat.le_refl _) _) (q + q2)) (Nat.le_refl _) emptyC
      · have v1 : ((m : Int) == 0) = false := beq_eq_false_iff_ne.2 (by omega)
        have v2 : (m == 0) = false := beq_eq_false_iff_ne.2 hm0
        by_cases hab : (b : Int) < (a : Int)
        · have HV := hbad (Or.inr hab)
          have x1 := txt_t hab
          have x2 := txt_t (show b < a by omega)
          clear hbad
          go_enter Try.func48, Try.ntmps48
          go_wp2_with fail
          refine (lexSingleV t hs a n HC.out _).mono ?_
          rintro e w1 ⟨rfl, q, rfl⟩
          go_wp2_with fail
          refine (textPrefixV _ _ true HP.out _).mono ?_
          rintro e w1 ⟨rfl, rfl⟩
          go_wp2_with fail
          refine (lexSingleV _ hsz b m HB2.out _).mono ?_
          rintro e w1 ⟨rfl, q2, rfl⟩
          go_wp2_with fail
          refine bodyPost_ret (v := .tuple #[.agg (clsWords emptyC), .int .i64 0]) (by simp [results, Try.results48, go_sem, clsWords, emptyC]) rfl ⟨by rw [HV.out], ?_⟩
          exact below_store (below_drew ((Below.refl _ w).alloc (Nat.le_refl _) _) (q + q2)) (Nat.le_refl _) emptyC
        · have x1 := txt_f hab
          have x2 := txt_f (show ¬ b < a by omega)
          have HV : Hid (memS t = (St.run a (b + 1 - a), (n : Int) + 1 + m)) := Lib.hid (mem_two HC.out (by omega) HD.out HB.out (by omega) (by omega))
          clear hbad
          go_enter Try.func48, Try.ntmps48
          go_wp2_with fail
          refine (lexSingleV t hs a n HC.out _).mono ?_
          rintro e w1 ⟨rfl, q, rfl⟩
          go_wp2_with fail
          refine (textPrefixV _ _ true HP.out _).mono ?_
          rintro e w1 ⟨rfl, rfl⟩
          go_wp2_with fail
          refine (lexSingleV _ hsz b m HB2.out _).mono ?_
          rintro e w1 ⟨rfl, q2, rfl⟩
          go_wp2_with fail
          refine (setRange a b hal hbl _).mono ?_
          rintro e w1 ⟨rfl, hb1⟩
          have HZ1 : Hid (SetAt w1 w.heap.size 31 emptyC) := Lib.hid (SetAt.next ((SetAt.new w 31 emptyC).drewN (q + q2)) hb1)
          have hB1 : Below w.heap.size w w1 := (below_drew ((Below.refl _ w).alloc (Nat.le_refl _) _) (q + q2)).trans (hb1.mono (by simp))
          obtain ⟨y0, y1, y2, y3⟩ := HZ1.out.frees
          obtain ⟨z0, z1, z2, z3⟩ := HZ1.out.cells
          clear hb1
          go_wp2_with fail
          exact bodyPost_ret (results_row_tmp Try.results48 _ _ w.heap.size 31 _ (0, 0) _ rfl (HZ1.out.store _) Try.underlying31 rfl (by kernel_rfl)) rfl ⟨by rw [HV.out]; rfl, below_store hB1 (Nat.le_refl _) _⟩
    · rw [decide_eq_false hd] at hpre
      have HP := Lib.hid hpre
      clear hpre
      have HV : Hid (memS t = (St.zero.put a, (n : Int))) := Lib.hid (mem_one HC.out (by omega) hd)
      go_enter Try.func48, Try.ntmps48
      go_wp2_with fail
      refine (lexSingleV t hs a n HC.out _).mono ?_
      rintro e w1 ⟨rfl, q, rfl⟩
      go_wp2_with fail
      refine (textPrefixV _ _ false HP.out _).mono ?_
      rintro e w1 ⟨rfl, rfl⟩
      go_wp2_with fail
      refine (setOf1 a hal _ (w.heap.size + 1) (by
        have h := At.new ((w.alloc (.cells #[.int .u64 0, .int .u64 0, .int .u64 0, .int .u64 0] 31)).drewN q) 5 #[.int .u8 a]
        rw [show ((w.alloc (.cells #[.int .u64 0, .int .u64 0, .int .u64 0, .int .u64 0] 31)).drewN q).heap.size = w.heap.size + 1 from World.size_alloc _ _] at h
        exact h)).mono ?_
      rintro e w1 ⟨rfl, hb1⟩
      have HZ1 : Hid (SetAt w1 w.heap.size 31 emptyC) := Lib.hid (SetAt.next (((SetAt.new w 31 emptyC).drewN q).alloc _) hb1)
      have hB1 : Below w.heap.size w w1 := ((below_drew ((Below.refl _ w).alloc (Nat.le_refl _) _) q).alloc (by simp) _).trans (hb1.mono (by simp; try omega))
      obtain ⟨y0, y1, y2, y3⟩ := HZ1.out.frees
      obtain ⟨z0, z1, z2, z3⟩ := HZ1.out.cells
      clear hb1
      go_wp2_with fail
      exact bodyPost_ret (results_row_tmp Try.results48 _ _ w.heap.size 31 _ (0, 0) _ rfl (HZ1.out.store _) Try.underlying31 rfl (by kernel_rfl)) rfl ⟨by rw [HV.out]; rfl, below_store hB1 (Nat.le_refl _) _⟩
end Go.Proofs.Ytkbfoelffeocmaa

/- What the program's class answers. -/
namespace Go.Proofs.Ytkbfoelffeocmaa
open Go.RowKit
set_option linter.unusedSimpArgs false
set_option linter.unusedVariables false

theorem or_put (c s : St) (b : Nat) : (c.or s).put b = c.or (s.put b) := by
  unfold St.put
  (repeat' split) <;> (unfold St.or; dsimp only; rw [Nat.or_assoc])
theorem or_zero (c : St) : c.or St.zero = c := by cases c; unfold St.or St.zero; simp
theorem puts_run (c : St) (a : Nat) : ∀ k, puts c a k = c.or (St.run a k)
  | 0 => (or_zero c).symm
  | k + 1 => by rw [puts, puts_run c a k, or_put]; rfl
theorem puts_one (c : St) (a : Nat) : puts c a 1 = c.or (St.zero.put a) := by rw [puts_run]; rfl
theorem mem_ok (t : ByteArray) : (memS t).1.Ok := by
  unfold memS
  (repeat' split)
  · exact emptyC_ok
  · exact emptyC_ok
  · exact St.run_ok _ _
  · exact St.put_ok St.zero_ok _
/-- A member, as it stands in a class: what it does to the rest of the class. -/
theorem mem_step (s : ByteArray) (i f : Nat) (c : St) (hi : i < s.size) (hb : ¬ bt s i = 93) :
    ∃ (x : St) (n : Nat), x.Ok ∧ memS (s.extract i s.size) = (x, (n : Int)) ∧ n ≤ 9 ∧ i + n ≤ s.size ∧ ((n = 0 ∧ classFrom s (f + 1) i c = none) ∨ (0 < n ∧ classFrom s (f + 1) i c = classFrom s f (i + n) (c.or x))) := by
  obtain ⟨a, n, ha, hal, hnl⟩ := char_nat s i ownC
  have hN : ¬ (s.size ≤ i ∨ bt s i = 93) := by omega
  have ha0 : charS (s.extract i s.size) 0 ownC = ((a : Int), (n : Int)) := by rw [char_drop s ownC i 0 (by omega)]; exact ha
  have hok := mem_ok (s.extract i s.size)
  by_cases hn0 : n = 0
  · subst hn0
    rw [mem_none ha0] at hok ⊢
    exact ⟨_, 0, hok, rfl, by omega, by omega, Or.inl ⟨rfl, classFrom_bad hN ha⟩⟩
  · have hin : i + n ≤ s.size := char_in ha (by omega)
    by_cases hd : i + n < s.size ∧ bt s (i + n) = 45
    · have hd0 : n < (s.extract i s.size).size ∧ bt (s.extract i s.size) n = 45 := ⟨by rw [drop_size]; omega, by rw [bt_drop s i n (by omega)]; exact hd.2⟩
      obtain ⟨b, m, hb', hbl, hml⟩ := char_nat s (i + n + 1) ownC
      have hb0 : charS (s.extract i s.size) (n + 1) ownC = ((b : Int), (m : Int)) := by rw [char_drop s ownC i (n + 1) (by omega)]; exact hb'
      by_cases hbad : (m : Int) = 0 ∨ (b : Int) < a
      · rw [mem_bad ha0 (by omega) hd0 hb0 hbad] at hok ⊢
        exact ⟨_, 0, hok, rfl, by omega, by omega, Or.inl ⟨rfl, classFrom_bad2 hN ha (by omega) hd hb' hbad⟩⟩
      · have hin2 : i + n + 1 + m ≤ s.size := char_in hb' (by omega)
        rw [mem_two ha0 (by omega) hd0 hb0 (by omega) (by omega)] at hok ⊢
        refine ⟨_, n + 1 + m, hok, by simp, by omega, by omega, Or.inr ⟨by omega, ?_⟩⟩
        rw [classFrom_two hN ha (by omega) hd hb' (by omega) (by omega), puts_run, show i + (n + 1 + m) = i + n + 1 + m by omega]
    · have hd0 : ¬ (n < (s.extract i s.size).size ∧ bt (s.extract i s.size) n = 45) := by rw [drop_size, bt_drop s i n (by omega)]; omega
      rw [mem_one ha0 (by omega) hd0] at hok ⊢
      exact ⟨_, n, hok, rfl, by omega, by omega, Or.inr ⟨by omega, by rw [classFrom_one hN ha (by omega) hd, puts_one]⟩⟩
theorem lexMemberV (t : ByteArray) (hs : t.size ≤ 20000) (x : St) (n : Nat) (h : memS t = (x, (n : Int))) (w : World) :
    Calls Try.prog 48 #[.string t] w fun e w' => e = .returned (.tuple #[.agg #[.int .u64 x.w0, .int .u64 x.w1, .int .u64 x.w2, .int .u64 x.w3], .int .i64 n]) ∧ Below w.heap.size w w' := by
  have := lexMember t hs w
  rw [h] at this
  exact this
theorem cells_later {w w1 : World} {g : Nat} {T : TypeId} {s : St} (h : SetAt w1 g T s) (o : Obj) :
    (w1.alloc o).cell? ⟨g, 0, none⟩ = some (.int .u64 s.w0) ∧ (w1.alloc o).cell? ⟨g, 1, none⟩ = some (.int .u64 s.w1) ∧ (w1.alloc o).cell? ⟨g, 2, none⟩ = some (.int .u64 s.w2) ∧ (w1.alloc o).cell? ⟨g, 3, none⟩ = some (.int .u64 s.w3) := SetAt.cells (h.alloc o)

set_option maxRecDepth 100000 in
set_option maxHeartbeats 8000000 in
theorem lexClassPlain (s : ByteArray) (hs : s.size ≤ 20000) (h0 : 0 < s.size) (hv : ¬ (1 < s.size ∧ bt s 1 = 94)) (w : World) :
    Calls Try.prog 31 #[.string s] w fun e w' => e = .returned (.tuple #[.agg (clsWords (classS s 0).1), .int .i64 (classS s 0).2]) ∧ Below w.heap.size w w' := by
  have HJ : Hid (¬ (0 + 1 < s.size ∧ bt s (0 + 1) = 94)) := Lib.hid hv
  have HJ2 : Hid (1 = if 0 + 1 < s.size ∧ bt s (0 + 1) = 94 then 0 + 2 else 0 + 1) := Lib.hid (by rw [if_neg HJ.out])
  have hin1 : 1 ≤ s.size := h0
  have HP : Hid (preS (s.extract 1 s.size) 0 (ByteArray.mk #[94]).data.toList = false) := Lib.hid (by
    show preS (s.extract 1 s.size) 0 [94] = _
    rw [pre_one, drop_size, bt_drop s 1 0 hin1, show (UInt8.toNat 94) = 94 from rfl, show 1 + 0 = 1 from rfl]
    exact decide_eq_false (by omega))
  obtain ⟨R, hR⟩ : ∃ R, classFrom s (s.size + 1) 1 emptyC = R := ⟨_, rfl⟩
  have HR := Lib.hid hR
  clear hR
  have hst : 1 ≤ s.size := by omega
  clear hv
  go_enter Try.func31, Try.ntmps31
  go_wp2_with fail
  refine (textPrefixV _ _ false HP.out _).mono ?_
  rintro e w1 ⟨rfl, rfl⟩
  go_wp2_with fail
  go_loopw [5] (fun i wr => ∃ (k : Nat) (c : St) (f : Nat), 1 ≤ k ∧ k ≤ s.size ∧ i = .int .i64 k ∧ c.Ok ∧ s.size < k + f ∧ Hid (classFrom s f k c = R) ∧ SetAt wr (w.heap.size + 1) 31 c ∧ SetAt wr w.heap.size 31 emptyC ∧ Below w.heap.size w wr) (fun i _ => s.size - (intOf i).toNat)
  case atStart =>
    refine ⟨1, emptyC, s.size + 1, by omega, hst, by go_num, emptyC_ok, by omega, HR, ?_, ?_, ?_⟩
    · have h := SetAt.new (w.alloc (.cells #[.int .u64 0, .int .u64 0, .int .u64 0, .int .u64 0] 31)) 31 emptyC
      simp only [World.size_alloc] at h
      exact h
    · exact (SetAt.new _ _ emptyC).alloc _
    · exact ((Below.refl _ _).alloc (Nat.le_refl _) _).alloc (by simp) _
  case round =>
    obtain ⟨k, c, f0, hpk, hk, rfl, hc, hf0, HF, hA, hZ, hB⟩ := hrel
    obtain ⟨f, rfl⟩ : ∃ f, f0 = f + 1 := ⟨f0 - 1, by omega⟩
    by_cases hlt : k < s.size
    · obtain ⟨b, hb⟩ : ∃ b, (s[k]'hlt).toNat = b := ⟨_, rfl⟩
      have hl : b < 256 := by rw [← hb]; exact UInt8.toNat_lt _
      have HBt : Hid (bt s k = b) := Lib.hid (by rw [← bt_is hlt]; exact hb)
      have kn1 : ((k : Int) == (s.size : Int)) = false := beq_eq_false_iff_ne.2 (by omega)
      have kn2 : (k == s.size) = false := beq_eq_false_iff_ne.2 (by omega)
      by_cases hb93 : b = 93
      · have HV : Hid (classS s 0 = (c, (k : Int) + 1)) := Lib.hid (by have := cls_is HJ.out (by rw [HR.out, ← HF.out, classFrom_end (Or.inr (by rw [HBt.out]; exact hb93))]) (by omega); rw [this]; simp)
        have g1 : ((b : Int) == 93) = true := by rw [beq_iff_eq]; omega
        have g2 : (b == 93) = true := by rw [beq_iff_eq]; omega
        have g3 : ((b : Int) != 93) = false := by rw [bne, g1]; rfl
        have g4 : (b != 93) = false := by rw [bne, g2]; rfl
        obtain ⟨x0, x1, x2, x3⟩ := hA.cells
        obtain ⟨y0, y1, y2, y3⟩ := hZ.frees
        obtain ⟨z0, z1, z2, z3⟩ := hZ.cells
        have HA := Lib.hid hA
        have HZ := Lib.hid hZ
        clear hA hZ
        go_wp2_with fail
        exact bodyPost_ret (results_row_tmp Try.results31 _ _ w.heap.size 31 _ (0, 0) _ rfl (HZ.out.store c) Try.underlying31 rfl (by kernel_rfl)) rfl ⟨by rw [HV.out]; rfl, below_store hB (Nat.le_refl _) c⟩
      · have g1 : ((b : Int) == 93) = false := beq_eq_false_iff_ne.2 (by omega)
        have g2 : (b == 93) = false := beq_eq_false_iff_ne.2 hb93
        have g3 : ((b : Int) != 93) = true := by rw [bne, g1]; rfl
        have g4 : (b != 93) = true := by rw [bne, g2]; rfl
        obtain ⟨x, n, hx, hm, hn9, hkn, hor⟩ := mem_step s k f c hlt (by rw [HBt.out]; exact hb93)
        have HM := Lib.hid hm
        have hsz : (s.extract k s.size).size ≤ 20000 := by rw [drop_size]; omega
        have HA := Lib.hid hA
        have HZ := Lib.hid hZ
        clear hA hZ hm
        rcases hor with ⟨rfl, hbad⟩ | ⟨hn0, hgo⟩
        · have HV : Hid (classS s 0 = (emptyC, 0)) := Lib.hid (cls_bad HJ2.out (by rw [HR.out, ← HF.out, hbad]))
          clear hbad
          go_wp2_with fail
          refine (lexMemberV _ hsz x 0 HM.out _).mono ?_
          rintro e w1 ⟨rfl, hb1⟩
          have HZ1 := Lib.hid (HZ.out.next hb1)
          have hB1 := hB.trans (hb1.mono hB.size)
          obtain ⟨y0, y1, y2, y3⟩ := HZ1.out.frees
          obtain ⟨z0, z1, z2, z3⟩ := HZ1.out.cells
          have hz0 : w.heap.size < w1.heap.size := HZ1.out.lt
          have yo0 := fun o => (SetAt.frees (HZ1.out.alloc o)).1
          have yo1 := fun o => (SetAt.frees (HZ1.out.alloc o)).2.1
          have yo2 := fun o => (SetAt.frees (HZ1.out.alloc o)).2.2.1
          have yo3 := fun o => (SetAt.frees (HZ1.out.alloc o)).2.2.2
          have zo0 := fun o => (SetAt.cells (HZ1.out.alloc o)).1
          have zo1 := fun o => (SetAt.cells (HZ1.out.alloc o)).2.1
          have zo2 := fun o => (SetAt.cells (HZ1.out.alloc o)).2.2.1
          have zo3 := fun o => (SetAt.cells (HZ1.out.alloc o)).2.2.2
          clear hb1
          go_wp2_with fail
          exact bodyPost_ret (results_row_tmp Try.results31 _ _ w.heap.size 31 _ (0, 0) _ rfl ((HZ1.out.store emptyC).alloc (.cells #[.int .u64 x.w0, .int .u64 x.w1, .int .u64 x.w2, .int .u64 x.w3] 31)) Try.underlying31 rfl (by kernel_rfl)) rfl ⟨by rw [HV.out]; rfl, (below_store hB1 (Nat.le_refl _) emptyC).alloc (below_store hB1 (Nat.le_refl _) emptyC).size (.cells #[.int .u64 x.w0, .int .u64 x.w1, .int .u64 x.w2, .int .u64 x.w3] 31)⟩
        · have HF2 : Hid (classFrom s f (k + n) (c.or x) = R) := Lib.hid (by rw [← hgo]; exact HF.out)
          have n1 : ((n : Int) == 0) = false := beq_eq_false_iff_ne.2 (by omega)
          have n2 : (n == 0) = false := beq_eq_false_iff_ne.2 (by omega)
          clear hgo
          go_wp2_with fail
          refine (lexMemberV _ hsz x n HM.out _).mono ?_
          rintro e w1 ⟨rfl, hb1⟩
          have HA1 := Lib.hid (HA.out.next hb1)
          have HZ1 := Lib.hid (HZ.out.next hb1)
          have hB1 := hB.trans (hb1.mono hB.size)
          have hz0 : w.heap.size + 1 < w1.heap.size := HA1.out.lt
          have zo0 := fun o => (SetAt.cells (HA1.out.alloc o)).1
          have zo1 := fun o => (SetAt.cells (HA1.out.alloc o)).2.1
          have zo2 := fun o => (SetAt.cells (HA1.out.alloc o)).2.2.1
          have zo3 := fun o => (SetAt.cells (HA1.out.alloc o)).2.2.2
          clear hb1
          go_wp2_with fail
          refine (setUnion c x hc hx _).mono ?_
          rintro e w2 ⟨rfl, hb2⟩
          have HA2 := Lib.hid ((HA1.out.alloc (.cells #[.int .u64 x.w0, .int .u64 x.w1, .int .u64 x.w2, .int .u64 x.w3] 31)).next hb2)
          have HZ2 := Lib.hid ((HZ1.out.alloc (.cells #[.int .u64 x.w0, .int .u64 x.w1, .int .u64 x.w2, .int .u64 x.w3] 31)).next hb2)
          have hB2 := (hB1.alloc hB1.size (.cells #[.int .u64 x.w0, .int .u64 x.w1, .int .u64 x.w2, .int .u64 x.w3] 31)).trans (hb2.mono (hB1.alloc hB1.size (.cells #[.int .u64 x.w0, .int .u64 x.w1, .int .u64 x.w2, .int .u64 x.w3] 31)).size)
          obtain ⟨d0, d1, d2, d3⟩ := HA2.out.cells
          obtain ⟨e0, e1, e2, e3⟩ := HA2.out.frees
          clear hb2 zo0 zo1 zo2 zo3
          go_wp2_with fail
          exact ⟨⟨k + n, c.or x, f, by omega, hkn, by go_num, St.or_ok hc hx, by omega, HF2, HA2.out.store _, HZ2.out.other (by omega) _, below_store hB2 (Nat.le_succ _) _⟩, by simp [intOf]; omega⟩
    · obtain rfl : k = s.size := by omega
      have HV : Hid (classS s 0 = (emptyC, 0)) := Lib.hid (cls_past HJ2.out (by rw [HR.out, ← HF.out, classFrom_end (Or.inl (by omega))]) (by omega))
      obtain ⟨y0, y1, y2, y3⟩ := hZ.frees
      obtain ⟨z0, z1, z2, z3⟩ := hZ.cells
      have HA := Lib.hid hA
      have HZ := Lib.hid hZ
      clear hA hZ
      go_wp2_with fail
      exact bodyPost_ret (results_row_tmp Try.results31 _ _ w.heap.size 31 _ (0, 0) _ rfl (HZ.out.store emptyC) Try.underlying31 rfl (by kernel_rfl)) rfl ⟨by rw [HV.out]; rfl, below_store hB (Nat.le_refl _) emptyC⟩

set_option maxRecDepth 100000 in
set_option maxHeartbeats 8000000 in
theorem lexClassNot (s : ByteArray) (hs : s.size ≤ 20000) (h0 : 0 < s.size) (hv : (1 < s.size ∧ bt s 1 = 94)) (w : World) :
    Calls Try.prog 31 #[.string s] w fun e w' => e = .returned (.tuple #[.agg (clsWords (classS s 0).1), .int .i64 (classS s 0).2]) ∧ Below w.heap.size w w' := by
  have HJ : Hid ((0 + 1 < s.size ∧ bt s (0 + 1) = 94)) := Lib.hid hv
  have HJ2 : Hid (2 = if 0 + 1 < s.size ∧ bt s (0 + 1) = 94 then 0 + 2 else 0 + 1) := Lib.hid (by rw [if_pos HJ.out])
  have hin1 : 1 ≤ s.size := h0
  have HP : Hid (preS (s.extract 1 s.size) 0 (ByteArray.mk #[94]).data.toList = true) := Lib.hid (by
    show preS (s.extract 1 s.size) 0 [94] = _
    rw [pre_one, drop_size, bt_drop s 1 0 hin1, show (UInt8.toNat 94) = 94 from rfl, show 1 + 0 = 1 from rfl]
    exact decide_eq_true (by omega))
  obtain ⟨R, hR⟩ : ∃ R, classFrom s (s.size + 1) 2 emptyC = R := ⟨_, rfl⟩
  have HR := Lib.hid hR
  clear hR
  have hst : 2 ≤ s.size := by omega
  clear hv
  go_enter Try.func31, Try.ntmps31
  go_wp2_with fail
  refine (textPrefixV _ _ true HP.out _).mono ?_
  rintro e w1 ⟨rfl, rfl⟩
  go_wp2_with fail
  go_loopw [5] (fun i wr => ∃ (k : Nat) (c : St) (f : Nat), 1 ≤ k ∧ k ≤ s.size ∧ i = .int .i64 k ∧ c.Ok ∧ s.size < k + f ∧ Hid (classFrom s f k c = R) ∧ SetAt wr (w.heap.size + 1) 31 c ∧ SetAt wr w.heap.size 31 emptyC ∧ Below w.heap.size w wr) (fun i _ => s.size - (intOf i).toNat)
  case atStart =>
    refine ⟨2, emptyC, s.size + 1, by omega, hst, by go_num, emptyC_ok, by omega, HR, ?_, ?_, ?_⟩
    · have h := SetAt.new (w.alloc (.cells #[.int .u64 0, .int .u64 0, .int .u64 0, .int .u64 0] 31)) 31 emptyC
      simp only [World.size_alloc] at h
      exact h
    · exact (SetAt.new _ _ emptyC).alloc _
    · exact ((Below.refl _ _).alloc (Nat.le_refl _) _).alloc (by simp) _
  case round =>
    obtain ⟨k, c, f0, hpk, hk, rfl, hc, hf0, HF, hA, hZ, hB⟩ := hrel
    obtain ⟨f, rfl⟩ : ∃ f, f0 = f + 1 := ⟨f0 - 1, by omega⟩
    by_cases hlt : k < s.size
    · obtain ⟨b, hb⟩ : ∃ b, (s[k]'hlt).toNat = b := ⟨_, rfl⟩
      have hl : b < 256 := by rw [← hb]; exact UInt8.toNat_lt _
      have HBt : Hid (bt s k = b) := Lib.hid (by rw [← bt_is hlt]; exact hb)
      have kn1 : ((k : Int) == (s.size : Int)) = false := beq_eq_false_iff_ne.2 (by omega)
      have kn2 : (k == s.size) = false := beq_eq_false_iff_ne.2 (by omega)
      by_cases hb93 : b = 93
      · have HV : Hid (classS s 0 = (c.not, (k : Int) + 1)) := Lib.hid (by have := cls_not HJ.out (by rw [HR.out, ← HF.out, classFrom_end (Or.inr (by rw [HBt.out]; exact hb93))]) (by omega); rw [this]; simp)
        have g1 : ((b : Int) == 93) = true := by rw [beq_iff_eq]; omega
        have g2 : (b == 93) = true := by rw [beq_iff_eq]; omega
        have g3 : ((b : Int) != 93) = false := by rw [bne, g1]; rfl
        have g4 : (b != 93) = false := by rw [bne, g2]; rfl
        obtain ⟨x0, x1, x2, x3⟩ := hA.cells
        obtain ⟨y0, y1, y2, y3⟩ := hZ.frees
        obtain ⟨z0, z1, z2, z3⟩ := hZ.cells
        have HA := Lib.hid hA
        have HZ := Lib.hid hZ
        clear hA hZ
        go_wp2_with fail
        refine (setNot c hc _).mono ?_
        rintro e w2 ⟨rfl, hb2⟩
        have HA2 := Lib.hid (HA.out.next hb2)
        have HZ2 := Lib.hid (HZ.out.next hb2)
        have hB2 := hB.trans (hb2.mono hB.size)
        clear x0 x1 x2 x3 y0 y1 y2 y3 z0 z1 z2 z3 hb2
        obtain ⟨d0, d1, d2, d3⟩ := HA2.out.cells
        obtain ⟨e0, e1, e2, e3⟩ := HA2.out.frees
        have HA3 := Lib.hid (HA2.out.store c.not)
        have HZ3 := Lib.hid (HZ2.out.other (show w.heap.size ≠ w.heap.size + 1 by omega) c.not)
        obtain ⟨x0, x1, x2, x3⟩ := HA3.out.cells
        obtain ⟨y0, y1, y2, y3⟩ := HZ3.out.frees
        obtain ⟨z0, z1, z2, z3⟩ := HZ3.out.cells
        go_wp2_with fail
        exact bodyPost_ret (results_row_tmp Try.results31 _ _ w.heap.size 31 _ (0, 0) _ rfl (HZ3.out.store c.not) Try.underlying31 rfl (by kernel_rfl)) rfl ⟨by rw [HV.out]; rfl, below_store (below_store hB2 (Nat.le_succ _) c.not) (Nat.le_refl _) c.not⟩
      · have g1 : ((b : Int) == 93) = false := beq_eq_false_iff_ne.2 (by omega)
        have g2 : (b == 93) = false := beq_eq_false_iff_ne.2 hb93
        have g3 : ((b : Int) != 93) = true := by rw [bne, g1]; rfl
        have g4 : (b != 93) = true := by rw [bne, g2]; rfl
        obtain ⟨x, n, hx, hm, hn9, hkn, hor⟩ := mem_step s k f c hlt (by rw [HBt.out]; exact hb93)
        have HM := Lib.hid hm
        have hsz : (s.extract k s.size).size ≤ 20000 := by rw [drop_size]; omega
        have HA := Lib.hid hA
        have HZ := Lib.hid hZ
        clear hA hZ hm
        rcases hor with ⟨rfl, hbad⟩ | ⟨hn0, hgo⟩
        · have HV : Hid (classS s 0 = (emptyC, 0)) := Lib.hid (cls_bad HJ2.out (by rw [HR.out, ← HF.out, hbad]))
          clear hbad
          go_wp2_with fail
          refine (lexMemberV _ hsz x 0 HM.out _).mono ?_
          rintro e w1 ⟨rfl, hb1⟩
          have HZ1 := Lib.hid (HZ.out.next hb1)
          have hB1 := hB.trans (hb1.mono hB.size)
          obtain ⟨y0, y1, y2, y3⟩ := HZ1.out.frees
          obtain ⟨z0, z1, z2, z3⟩ := HZ1.out.cells
          have hz0 : w.heap.size < w1.heap.size := HZ1.out.lt
          have yo0 := fun o => (SetAt.frees (HZ1.out.alloc o)).1
          have yo1 := fun o => (SetAt.frees (HZ1.out.alloc o)).2.1
          have yo2 := fun o => (SetAt.frees (HZ1.out.alloc o)).2.2.1
          have yo3 := fun o => (SetAt.frees (HZ1.out.alloc o)).2.2.2
          have zo0 := fun o => (SetAt.cells (HZ1.out.alloc o)).1
          have zo1 := fun o => (SetAt.cells (HZ1.out.alloc o)).2.1
          have zo2 := fun o => (SetAt.cells (HZ1.out.alloc o)).2.2.1
          have zo3 := fun o => (SetAt.cells (HZ1.out.alloc o)).2.2.2
          clear hb1
          go_wp2_with fail
          exact bodyPost_ret (results_row_tmp Try.results31 _ _ w.heap.size 31 _ (0, 0) _ rfl ((HZ1.out.store emptyC).alloc (.cells #[.int .u64 x.w0, .int .u64 x.w1, .int .u64 x.w2, .int .u64 x.w3] 31)) Try.underlying31 rfl (by kernel_rfl)) rfl ⟨by rw [HV.out]; rfl, (below_store hB1 (Nat.le_refl _) emptyC).alloc (below_store hB1 (Nat.le_refl _) emptyC).size (.cells #[.int .u64 x.w0, .int .u64 x.w1, .int .u64 x.w2, .int .u64 x.w3] 31)⟩
        · have HF2 : Hid (classFrom s f (k + n) (c.or x) = R) := Lib.hid (by rw [← hgo]; exact HF.out)
          have n1 : ((n : Int) == 0) = false := beq_eq_false_iff_ne.2 (by omega)
          have n2 : (n == 0) = false := beq_eq_false_iff_ne.2 (by omega)
          clear hgo
          go_wp2_with fail
          refine (lexMemberV _ hsz x n HM.out _).mono ?_
          rintro e w1 ⟨rfl, hb1⟩
          have HA1 := Lib.hid (HA.out.next hb1)
          have HZ1 := Lib.hid (HZ.out.next hb1)
          have hB1 := hB.trans (hb1.mono hB.size)
          have hz0 : w.heap.size + 1 < w1.heap.size := HA1.out.lt
          have zo0 := fun o => (SetAt.cells (HA1.out.alloc o)).1
          have zo1 := fun o => (SetAt.cells (HA1.out.alloc o)).2.1
          have zo2 := fun o => (SetAt.cells (HA1.out.alloc o)).2.2.1
          have zo3 := fun o => (SetAt.cells (HA1.out.alloc o)).2.2.2
          clear hb1
          go_wp2_with fail
          refine (setUnion c x hc hx _).mono ?_
          rintro e w2 ⟨rfl, hb2⟩
          have HA2 := Lib.hid ((HA1.out.alloc (.cells #[.int .u64 x.w0, .int .u64 x.w1, .int .u64 x.w2, .int .u64 x.w3] 31)).next hb2)
          have HZ2 := Lib.hid ((HZ1.out.alloc (.cells #[.int .u64 x.w0, .int .u64 x.w1, .int .u64 x.w2, .int .u64 x.w3] 31)).next hb2)
          have hB2 := (hB1.alloc hB1.size (.cells #[.int .u64 x.w0, .int .u64 x.w1, .int .u64 x.w2, .int .u64 x.w3] 31)).trans (hb2.mono (hB1.alloc hB1.size (.cells #[.int .u64 x.w0, .int .u64 x.w1, .int .u64 x.w2, .int .u64 x.w3] 31)).size)
          obtain ⟨d0, d1, d2, d3⟩ := HA2.out.cells
          obtain ⟨e0, e1, e2, e3⟩ := HA2.out.frees
          clear hb2 zo0 zo1 zo2 zo3
          go_wp2_with fail
          exact ⟨⟨k + n, c.or x, f, by omega, hkn, by go_num, St.or_ok hc hx, by omega, HF2, HA2.out.store _, HZ2.out.other (by omega) _, below_store hB2 (Nat.le_succ _) _⟩, by simp [intOf]; omega⟩
    · obtain rfl : k = s.size := by omega
      have HV : Hid (classS s 0 = (emptyC, 0)) := Lib.hid (cls_past HJ2.out (by rw [HR.out, ← HF.out, classFrom_end (Or.inl (by omega))]) (by omega))
      obtain ⟨y0, y1, y2, y3⟩ := hZ.frees
      obtain ⟨z0, z1, z2, z3⟩ := hZ.cells
      have HA := Lib.hid hA
      have HZ := Lib.hid hZ
      clear hA hZ
      go_wp2_with fail
      exact bodyPost_ret (results_row_tmp Try.results31 _ _ w.heap.size 31 _ (0, 0) _ rfl (HZ.out.store emptyC) Try.underlying31 rfl (by kernel_rfl)) rfl ⟨by rw [HV.out]; rfl, below_store hB (Nat.le_refl _) emptyC⟩

theorem lexClass (s : ByteArray) (hs : s.size ≤ 20000) (h0 : 0 < s.size) (w : World) :
    Calls Try.prog 31 #[.string s] w fun e w' => e = .returned (.tuple #[.agg (clsWords (classS s 0).1), .int .i64 (classS s 0).2]) ∧ Below w.heap.size w w' := by
  by_cases h : 1 < s.size ∧ bt s 1 = 94
  · exact lexClassNot s hs h0 h w
  · exact lexClassPlain s hs h0 h w
end Go.Proofs.Ytkbfoelffeocmaa

/- What a word is; what the program's bytesWord and open answer. -/
namespace Go.Proofs.Ytkbfoelffeocmaa
open Go.RowKit
set_option linter.unusedSimpArgs false
set_option linter.unusedVariables false

def kindW (k : Int) : Wd := ⟨k, emptyC, { data := #[] }, 0, 0⟩
def setW (s : St) : Wd := ⟨1, s, { data := #[] }, 0, 0⟩
/-- What begins with a ( at a place. -/
def openS (s : ByteArray) (p : Nat) : Wd × Int :=
  if preS s p [40, 63, 61] = true then (kindW 12, 3) else if preS s p [40, 63, 33] = true then (kindW 13, 3)
  else if preS s p [40, 63, 60, 61] = true then (kindW 14, 4) else if preS s p [40, 63, 60, 33] = true then (kindW 15, 4) else (kindW 2, 1)
/-- All but the line feed, below k. -/
def dotTo : Nat → St
  | 0 => emptyC
  | k + 1 => if k = 10 then dotTo k else (dotTo k).put k
def ownW : ByteArray := { data := #[93, 125] }
/-- The word at a place, and how many bytes it takes; 0: none stands there. -/
def wordS (s : ByteArray) (p : Nat) : Wd × Int :=
  if bt s p = 40 then openS s p
  else if bt s p = 91 then (setW (classS s p).1, (classS s p).2)
  else if bt s p = 123 then bracesS s p
  else if 0 < signsS (bt s p) then (kindW (signsS (bt s p)), 1)
  else if bt s p = 46 then (setW (dotTo 256), 1)
  else (setW (St.zero.put (charS s p ownW).1.toNat), (charS s p ownW).2)
theorem pre_drop (s : ByteArray) (p : Nat) (hp : p ≤ s.size) (q : List UInt8) : ∀ i, preS (s.extract p s.size) i q = preS s (p + i) q := by
  induction q with
  | nil => intro i; rfl
  | cons a q ih =>
    intro i
    unfold preS
    rw [ih (i + 1), bt_drop s p i hp, drop_size, show p + (i + 1) = p + i + 1 from rfl]
    have e : (i < s.size - p ∧ bt s (p + i) = a.toNat) = (p + i < s.size ∧ bt s (p + i) = a.toNat) := by rw [eq_iff_iff]; omega
    simp only [e]
theorem txt_wd {x : Wd} {n : Int} {p : Wd × Int} (h : p = (x, n)) : Ending.returned (.tuple #[.agg (wdCells x 0), .int .i64 n]) = .returned (.tuple #[.agg (wdCells p.1 0), .int .i64 p.2]) := by rw [h]
set_option maxRecDepth 100000 in
set_option maxHeartbeats 1000000 in
theorem lexBytes (c : St) (n : Int) (w : World) :
    Calls Try.prog 29 #[.agg #[.int .u64 c.w0, .int .u64 c.w1, .int .u64 c.w2, .int .u64 c.w3], .int .i64 n] w fun e w' => e = .returned (.tuple #[.agg (wdCells (setW c) 0), .int .i64 n]) ∧ Below w.heap.size w w' := by
  go_enter Try.func29, Try.ntmps29
  go_wp2_with fail
  refine bodyPost_ret (v := .tuple #[.agg (wdCells (setW c) 0), .int .i64 n]) (by simp [results, Try.results29, go_sem, wdCells, setW]) rfl ⟨rfl, ?_⟩
  repeat (first | exact Below.refl _ _ | refine Below.drew ?_ | refine Below.alloc ?_ (by simp; try omega) _)
set_option maxRecDepth 100000 in
set_option maxHeartbeats 4000000 in
theorem lexOpen (s : ByteArray) (w : World) :
    Calls Try.prog 34 #[.string s] w fun e w' => e = .returned (.tuple #[.agg (wdCells (openS s 0).1 0), .int .i64 (openS s 0).2]) ∧ Below w.heap.size w w' := by
  obtain ⟨v0, hv0⟩ : ∃ v, preS s 0 [40, 63, 61] = v := ⟨_, rfl⟩
  have H0 := Lib.hid hv0
  clear hv0
  rcases v0 with _ | _
  · obtain ⟨v1, hv1⟩ : ∃ v, preS s 0 [40, 63, 33] = v := ⟨_, rfl⟩
    have H1 := Lib.hid hv1
    clear hv1
    rcases v1 with _ | _
    · obtain ⟨v2, hv2⟩ : ∃ v, preS s 0 [40, 63, 60, 61] = v := ⟨_, rfl⟩
      have H2 := Lib.hid hv2
      clear hv2
      rcases v2 with _ | _
      · obtain ⟨v3, hv3⟩ : ∃ v, preS s 0 [40, 63, 60, 33] = v := ⟨_, rfl⟩
        have H3 := Lib.hid hv3
        clear hv3
        rcases v3 with _ | _
        · have HV : Hid (openS s 0 = (kindW 2, 1)) := Lib.hid (by unfold openS; rw [if_neg (by rw [H0.out]; exact Bool.false_ne_true)]; rw [if_neg (by rw [H1.out]; exact Bool.false_ne_true)]; rw [if_neg (by rw [H2.out]; exact Bool.false_ne_true)]; rw [if_neg (by rw [H3.out]; exact Bool.false_ne_true)])
          go_enter Try.func34, Try.ntmps34
          go_wp2_with fail
          refine (textPrefixV _ _ false H0.out _).mono ?_
          rintro e w1 ⟨rfl, rfl⟩
          go_wp2_with fail
          refine (textPrefixV _ _ false H1.out _).mono ?_
          rintro e w1 ⟨rfl, rfl⟩
          go_wp2_with fail
          refine (textPrefixV _ _ false H2.out _).mono ?_
          rintro e w1 ⟨rfl, rfl⟩
          go_wp2_with fail
          refine (textPrefixV _ _ false H3.out _).mono ?_
          rintro e w1 ⟨rfl, rfl⟩
          go_wp2_with fail
          refine bodyPost_ret (v := .tuple #[.agg (wdCells (kindW 2) 0), .int .i64 1]) (by simp [results, Try.results34, go_sem, wdCells, kindW, emptyC]) rfl ⟨txt_wd HV.out, ?_⟩
          repeat (first | exact Below.refl _ _ | refine Below.drew ?_ | refine Below.alloc ?_ (by simp; try omega) _)
        · have HV : Hid (openS s 0 = (kindW 15, 4)) := Lib.hid (by unfold openS; rw [if_neg (by rw [H0.out]; exact Bool.false_ne_true)]; rw [if_neg (by rw [H1.out]; exact Bool.false_ne_true)]; rw [if_neg (by rw [H2.out]; exact Bool.false_ne_true)]; rw [if_pos H3.out])
          go_enter Try.func34, Try.ntmps34
          go_wp2_with fail
          refine (textPrefixV _ _ false H0.out _).mono ?_
          rintro e w1 ⟨rfl, rfl⟩
          go_wp2_with fail
          refine (textPrefixV _ _ false H1.out _).mono ?_
          rintro e w1 ⟨rfl, rfl⟩
          go_wp2_with fail
          refine (textPrefixV _ _ false H2.out _).mono ?_
          rintro e w1 ⟨rfl, rfl⟩
          go_wp2_with fail
          refine (textPrefixV _ _ true H3.out _).mono ?_
          rintro e w1 ⟨rfl, rfl⟩
          go_wp2_with fail
          refine bodyPost_ret (v := .tuple #[.agg (wdCells (kindW 15) 0), .int .i64 4]) (by simp [results, Try.results34, go_sem, wdCells, kindW, emptyC]) rfl ⟨txt_wd HV.out, ?_⟩
          repeat (first | exact Below.refl _ _ | refine Below.drew ?_ | refine Below.alloc ?_ (by simp; try omega) _)
      · have HV : Hid (openS s 0 = (kindW 14, 4)) := Lib.hid (by unfold openS; rw [if_neg (by rw [H0.out]; exact Bool.false_ne_true)]; rw [if_neg (by rw [H1.out]; exact Bool.false_ne_true)]; rw [if_pos H2.out])
        go_enter Try.func34, Try.ntmps34
        go_wp2_with fail
        refine (textPrefixV _ _ false H0.out _).mono ?_
        rintro e w1 ⟨rfl, rfl⟩
        go_wp2_with fail
        refine (textPrefixV _ _ false H1.out _).mono ?_
        rintro e w1 ⟨rfl, rfl⟩
        go_wp2_with fail
        refine (textPrefixV _ _ true H2.out _).mono ?_
        rintro e w1 ⟨rfl, rfl⟩
        go_wp2_with fail
        refine bodyPost_ret (v := .tuple #[.agg (wdCells (kindW 14) 0), .int .i64 4]) (by simp [results, Try.results34, go_sem, wdCells, kindW, emptyC]) rfl ⟨txt_wd HV.out, ?_⟩
        repeat (first | exact Below.refl _ _ | refine Below.drew ?_ | refine Below.alloc ?_ (by simp; try omega) _)
    · have HV : Hid (openS s 0 = (kindW 13, 3)) := Lib.hid (by unfold openS; rw [if_neg (by rw [H0.out]; exact Bool.false_ne_true)]; rw [if_pos H1.out])
      go_enter Try.func34, Try.ntmps34
      go_wp2_with fail
      refine (textPrefixV _ _ false H0.out _).mono ?_
      rintro e w1 ⟨rfl, rfl⟩
      go_wp2_with fail
      refine (textPrefixV _ _ true H1.out _).mono ?_
      rintro e w1 ⟨rfl, rfl⟩
      go_wp2_with fail
      refine bodyPost_ret (v := .tuple #[.agg (wdCells (kindW 13) 0), .int .i64 3]) (by simp [results, Try.results34, go_sem, wdCells, kindW, emptyC]) rfl ⟨txt_wd HV.out, ?_⟩
      repeat (first | exact Below.refl _ _ | refine Below.drew ?_ | refine Below.alloc ?_ (by simp; try omega) _)
  · have HV : Hid (openS s 0 = (kindW 12, 3)) := Lib.hid (by unfold openS; rw [if_pos H0.out])
    go_enter Try.func34, Try.ntmps34
    go_wp2_with fail
    refine (textPrefixV _ _ true H0.out _).mono ?_
    rintro e w1 ⟨rfl, rfl⟩
    go_wp2_with fail
    refine bodyPost_ret (v := .tuple #[.agg (wdCells (kindW 12) 0), .int .i64 3]) (by simp [results, Try.results34, go_sem, wdCells, kindW, emptyC]) rfl ⟨txt_wd HV.out, ?_⟩
    repeat (first | exact Below.refl _ _ | refine Below.drew ?_ | refine Below.alloc ?_ (by simp; try omega) _)
end Go.Proofs.Ytkbfoelffeocmaa
