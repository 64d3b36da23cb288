/- What tree's rightParts and rightTimes answer. -/
import Derived.Test.YtgmpfnfomgadeaaGreatProg
import Derived.Test.YtgmpfnfomgadeaaGreatMaa
import Derived.Test.YtgmpfnfomgadeaaGreatMah
import Derived.Test.YtgmpfnfomgadeaaGreatMad
import Derived.Test.YtgmpfnfomgadeaaGreatMab
set_option linter.unusedSimpArgs false
set_option linter.unusedVariables false
set_option maxHeartbeats 2000000
set_option maxRecDepth 100000
namespace Go.Proofs.YtgmpfnfomgadeaaGreat
open Go.RowKit
def rpB (t:Tr):Bool:=decide ((0≤t.kind∧t.kind≤11)∧(t.parts.length:Int)=cntF t)
theorem rp_yes {t:Tr} (h:0≤t.kind∧t.kind≤11) (h1:(t.parts.length:Int)=cntF t):rpB t=true:=decide_eq_true ⟨h,h1⟩
theorem rp_no {t:Tr} (h:¬(t.parts.length:Int)=cntF t):rpB t=false:=decide_eq_false fun q=>h q.2
theorem rp_out {t:Tr} (h:t.kind<0∨11<t.kind):rpB t=false:=decide_eq_false fun q=>by omega
def rtB (t:Tr):Bool:=decide ((t.kind=7∨(t.lo=0∧t.hi=0))∧(t.kind=7→timesF t))
theorem rightParts_0 (t:Tr) (w:World) (hn:t.n=t.parts.length) (hl:t.parts.length≤9223372036854775807) (hk:t.kind=0) :
    Calls Tryz.prog 63 #[.agg t.cs.toArray] w fun e w'=>e=.returned (.bool (rpB t))∧Below w.heap.size w w':=by
  have HA0:=Lib.hid (At.new w 27 t.cs.toArray)
  obtain ⟨c0,c5,c6,c7,c8⟩:=At.tr_cell HA0.out
  rw[hn] at c5
  have HN:=Lib.hid hn
  clear hn
  rw[hk] at c0
  by_cases hlen:(t.parts.length:Int)=0
  · have dlen:=(int_eq hlen).1
    have HF:=Lib.hid (rp_yes (t:=t) (by omega) (by rw[cnt_none (by omega) (by omega)];exact hlen))
    clear hk hlen
    go_enter Tryz.func63,Tryz.ntmps63
    go_wp2_with fail
    go_ret
    exact ⟨ret_bool HF.out.symm,(Below.refl _ _).alloc (Nat.le_refl _) _⟩
  · have dlen:=(int_ne hlen).1
    have HF:=Lib.hid (rp_no (t:=t) (by rw[cnt_none (by omega) (by omega)];exact hlen))
    clear hk hlen
    go_enter Tryz.func63,Tryz.ntmps63
    go_wp2_with fail
    go_ret
    exact ⟨ret_bool HF.out.symm,(Below.refl _ _).alloc (Nat.le_refl _) _⟩
theorem rightParts_1 (t:Tr) (w:World) (hn:t.n=t.parts.length) (hl:t.parts.length≤9223372036854775807) (hk:t.kind=1) :
    Calls Tryz.prog 63 #[.agg t.cs.toArray] w fun e w'=>e=.returned (.bool (rpB t))∧Below w.heap.size w w':=by
  have HA0:=Lib.hid (At.new w 27 t.cs.toArray)
  obtain ⟨c0,c5,c6,c7,c8⟩:=At.tr_cell HA0.out
  rw[hn] at c5
  have HN:=Lib.hid hn
  clear hn
  rw[hk] at c0
  by_cases hlen:(t.parts.length:Int)=0
  · have dlen:=(int_eq hlen).1
    have HF:=Lib.hid (rp_yes (t:=t) (by omega) (by rw[cnt_none (by omega) (by omega)];exact hlen))
    clear hk hlen
    go_enter Tryz.func63,Tryz.ntmps63
    go_wp2_with fail
    go_ret
    exact ⟨ret_bool HF.out.symm,(Below.refl _ _).alloc (Nat.le_refl _) _⟩
  · have dlen:=(int_ne hlen).1
    have HF:=Lib.hid (rp_no (t:=t) (by rw[cnt_none (by omega) (by omega)];exact hlen))
    clear hk hlen
    go_enter Tryz.func63,Tryz.ntmps63
    go_wp2_with fail
    go_ret
    exact ⟨ret_bool HF.out.symm,(Below.refl _ _).alloc (Nat.le_refl _) _⟩
theorem rightParts_2 (t:Tr) (w:World) (hn:t.n=t.parts.length) (hl:t.parts.length≤9223372036854775807) (hk:t.kind=2) :
    Calls Tryz.prog 63 #[.agg t.cs.toArray] w fun e w'=>e=.returned (.bool (rpB t))∧Below w.heap.size w w':=by
  have HA0:=Lib.hid (At.new w 27 t.cs.toArray)
  obtain ⟨c0,c5,c6,c7,c8⟩:=At.tr_cell HA0.out
  rw[hn] at c5
  have HN:=Lib.hid hn
  clear hn
  rw[hk] at c0
  by_cases hlen:(t.parts.length:Int)=0
  · have dlen:=(int_eq hlen).1
    have HF:=Lib.hid (rp_yes (t:=t) (by omega) (by rw[cnt_none (by omega) (by omega)];exact hlen))
    clear hk hlen
    go_enter Tryz.func63,Tryz.ntmps63
    go_wp2_with fail
    go_ret
    exact ⟨ret_bool HF.out.symm,(Below.refl _ _).alloc (Nat.le_refl _) _⟩
  · have dlen:=(int_ne hlen).1
    have HF:=Lib.hid (rp_no (t:=t) (by rw[cnt_none (by omega) (by omega)];exact hlen))
    clear hk hlen
    go_enter Tryz.func63,Tryz.ntmps63
    go_wp2_with fail
    go_ret
    exact ⟨ret_bool HF.out.symm,(Below.refl _ _).alloc (Nat.le_refl _) _⟩
theorem rightParts_3 (t:Tr) (w:World) (hn:t.n=t.parts.length) (hl:t.parts.length≤9223372036854775807) (hk:t.kind=3) :
    Calls Tryz.prog 63 #[.agg t.cs.toArray] w fun e w'=>e=.returned (.bool (rpB t))∧Below w.heap.size w w':=by
  have HA0:=Lib.hid (At.new w 27 t.cs.toArray)
  obtain ⟨c0,c5,c6,c7,c8⟩:=At.tr_cell HA0.out
  rw[hn] at c5
  have HN:=Lib.hid hn
  clear hn
  rw[hk] at c0
  have HF:=Lib.hid (rp_yes (t:=t) (by omega) (cnt_all (by omega)).symm)
  clear hk
  go_enter Tryz.func63,Tryz.ntmps63
  go_wp2_with fail
  go_ret
  exact ⟨ret_bool HF.out.symm,(Below.refl _ _).alloc (Nat.le_refl _) _⟩
theorem rightParts_4 (t:Tr) (w:World) (hn:t.n=t.parts.length) (hl:t.parts.length≤9223372036854775807) (hk:t.kind=4) :
    Calls Tryz.prog 63 #[.agg t.cs.toArray] w fun e w'=>e=.returned (.bool (rpB t))∧Below w.heap.size w w':=by
  have HA0:=Lib.hid (At.new w 27 t.cs.toArray)
  obtain ⟨c0,c5,c6,c7,c8⟩:=At.tr_cell HA0.out
  rw[hn] at c5
  have HN:=Lib.hid hn
  clear hn
  rw[hk] at c0
  have HF:=Lib.hid (rp_yes (t:=t) (by omega) (cnt_all (by omega)).symm)
  clear hk
  go_enter Tryz.func63,Tryz.ntmps63
  go_wp2_with fail
  go_ret
  exact ⟨ret_bool HF.out.symm,(Below.refl _ _).alloc (Nat.le_refl _) _⟩
theorem rightParts_5 (t:Tr) (w:World) (hn:t.n=t.parts.length) (hl:t.parts.length≤9223372036854775807) (hk:t.kind=5) :
    Calls Tryz.prog 63 #[.agg t.cs.toArray] w fun e w'=>e=.returned (.bool (rpB t))∧Below w.heap.size w w':=by
  have HA0:=Lib.hid (At.new w 27 t.cs.toArray)
  obtain ⟨c0,c5,c6,c7,c8⟩:=At.tr_cell HA0.out
  rw[hn] at c5
  have HN:=Lib.hid hn
  clear hn
  rw[hk] at c0
  have HF:=Lib.hid (rp_yes (t:=t) (by omega) (cnt_all (by omega)).symm)
  clear hk
  go_enter Tryz.func63,Tryz.ntmps63
  go_wp2_with fail
  go_ret
  exact ⟨ret_bool HF.out.symm,(Below.refl _ _).alloc (Nat.le_refl _) _⟩
theorem rightParts_6 (t:Tr) (w:World) (hn:t.n=t.parts.length) (hl:t.parts.length≤9223372036854775807) (hk:t.kind=6) :
    Calls Tryz.prog 63 #[.agg t.cs.toArray] w fun e w'=>e=.returned (.bool (rpB t))∧Below w.heap.size w w':=by
  have HA0:=Lib.hid (At.new w 27 t.cs.toArray)
  obtain ⟨c0,c5,c6,c7,c8⟩:=At.tr_cell HA0.out
  rw[hn] at c5
  have HN:=Lib.hid hn
  clear hn
  rw[hk] at c0
  by_cases hlen:(t.parts.length:Int)=1
  · have dlen:=(int_eq hlen).1
    have HF:=Lib.hid (rp_yes (t:=t) (by omega) (by rw[cnt_one (by omega)];exact hlen))
    clear hk hlen
    go_enter Tryz.func63,Tryz.ntmps63
    go_wp2_with fail
    go_ret
    exact ⟨ret_bool HF.out.symm,(Below.refl _ _).alloc (Nat.le_refl _) _⟩
  · have dlen:=(int_ne hlen).1
    have HF:=Lib.hid (rp_no (t:=t) (by rw[cnt_one (by omega)];exact hlen))
    clear hk hlen
    go_enter Tryz.func63,Tryz.ntmps63
    go_wp2_with fail
    go_ret
    exact ⟨ret_bool HF.out.symm,(Below.refl _ _).alloc (Nat.le_refl _) _⟩
theorem rightParts_7 (t:Tr) (w:World) (hn:t.n=t.parts.length) (hl:t.parts.length≤9223372036854775807) (hk:t.kind=7) :
    Calls Tryz.prog 63 #[.agg t.cs.toArray] w fun e w'=>e=.returned (.bool (rpB t))∧Below w.heap.size w w':=by
  have HA0:=Lib.hid (At.new w 27 t.cs.toArray)
  obtain ⟨c0,c5,c6,c7,c8⟩:=At.tr_cell HA0.out
  rw[hn] at c5
  have HN:=Lib.hid hn
  clear hn
  rw[hk] at c0
  by_cases hlen:(t.parts.length:Int)=1
  · have dlen:=(int_eq hlen).1
    have HF:=Lib.hid (rp_yes (t:=t) (by omega) (by rw[cnt_one (by omega)];exact hlen))
    clear hk hlen
    go_enter Tryz.func63,Tryz.ntmps63
    go_wp2_with fail
    go_ret
    exact ⟨ret_bool HF.out.symm,(Below.refl _ _).alloc (Nat.le_refl _) _⟩
  · have dlen:=(int_ne hlen).1
    have HF:=Lib.hid (rp_no (t:=t) (by rw[cnt_one (by omega)];exact hlen))
    clear hk hlen
    go_enter Tryz.func63,Tryz.ntmps63
    go_wp2_with fail
    go_ret
    exact ⟨ret_bool HF.out.symm,(Below.refl _ _).alloc (Nat.le_refl _) _⟩
theorem rightParts_8 (t:Tr) (w:World) (hn:t.n=t.parts.length) (hl:t.parts.length≤9223372036854775807) (hk:t.kind=8) :
    Calls Tryz.prog 63 #[.agg t.cs.toArray] w fun e w'=>e=.returned (.bool (rpB t))∧Below w.heap.size w w':=by
  have HA0:=Lib.hid (At.new w 27 t.cs.toArray)
  obtain ⟨c0,c5,c6,c7,c8⟩:=At.tr_cell HA0.out
  rw[hn] at c5
  have HN:=Lib.hid hn
  clear hn
  rw[hk] at c0
  by_cases hlen:(t.parts.length:Int)=1
  · have dlen:=(int_eq hlen).1
    have HF:=Lib.hid (rp_yes (t:=t) (by omega) (by rw[cnt_one (by omega)];exact hlen))
    clear hk hlen
    go_enter Tryz.func63,Tryz.ntmps63
    go_wp2_with fail
    go_ret
    exact ⟨ret_bool HF.out.symm,(Below.refl _ _).alloc (Nat.le_refl _) _⟩
  · have dlen:=(int_ne hlen).1
    have HF:=Lib.hid (rp_no (t:=t) (by rw[cnt_one (by omega)];exact hlen))
    clear hk hlen
    go_enter Tryz.func63,Tryz.ntmps63
    go_wp2_with fail
    go_ret
    exact ⟨ret_bool HF.out.symm,(Below.refl _ _).alloc (Nat.le_refl _) _⟩
theorem rightParts_9 (t:Tr) (w:World) (hn:t.n=t.parts.length) (hl:t.parts.length≤9223372036854775807) (hk:t.kind=9) :
    Calls Tryz.prog 63 #[.agg t.cs.toArray] w fun e w'=>e=.returned (.bool (rpB t))∧Below w.heap.size w w':=by
  have HA0:=Lib.hid (At.new w 27 t.cs.toArray)
  obtain ⟨c0,c5,c6,c7,c8⟩:=At.tr_cell HA0.out
  rw[hn] at c5
  have HN:=Lib.hid hn
  clear hn
  rw[hk] at c0
  by_cases hlen:(t.parts.length:Int)=1
  · have dlen:=(int_eq hlen).1
    have HF:=Lib.hid (rp_yes (t:=t) (by omega) (by rw[cnt_one (by omega)];exact hlen))
    clear hk hlen
    go_enter Tryz.func63,Tryz.ntmps63
    go_wp2_with fail
    go_ret
    exact ⟨ret_bool HF.out.symm,(Below.refl _ _).alloc (Nat.le_refl _) _⟩
  · have dlen:=(int_ne hlen).1
    have HF:=Lib.hid (rp_no (t:=t) (by rw[cnt_one (by omega)];exact hlen))
    clear hk hlen
    go_enter Tryz.func63,Tryz.ntmps63
    go_wp2_with fail
    go_ret
    exact ⟨ret_bool HF.out.symm,(Below.refl _ _).alloc (Nat.le_refl _) _⟩
theorem rightParts_10 (t:Tr) (w:World) (hn:t.n=t.parts.length) (hl:t.parts.length≤9223372036854775807) (hk:t.kind=10) :
    Calls Tryz.prog 63 #[.agg t.cs.toArray] w fun e w'=>e=.returned (.bool (rpB t))∧Below w.heap.size w w':=by
  have HA0:=Lib.hid (At.new w 27 t.cs.toArray)
  obtain ⟨c0,c5,c6,c7,c8⟩:=At.tr_cell HA0.out
  rw[hn] at c5
  have HN:=Lib.hid hn
  clear hn
  rw[hk] at c0
  by_cases hlen:(t.parts.length:Int)=0
  · have dlen:=(int_eq hlen).1
    have HF:=Lib.hid (rp_yes (t:=t) (by omega) (by rw[cnt_none (by omega) (by omega)];exact hlen))
    clear hk hlen
    go_enter Tryz.func63,Tryz.ntmps63
    go_wp2_with fail
    go_ret
    exact ⟨ret_bool HF.out.symm,(Below.refl _ _).alloc (Nat.le_refl _) _⟩
  · have dlen:=(int_ne hlen).1
    have HF:=Lib.hid (rp_no (t:=t) (by rw[cnt_none (by omega) (by omega)];exact hlen))
    clear hk hlen
    go_enter Tryz.func63,Tryz.ntmps63
    go_wp2_with fail
    go_ret
    exact ⟨ret_bool HF.out.symm,(Below.refl _ _).alloc (Nat.le_refl _) _⟩
theorem rightParts_11 (t:Tr) (w:World) (hn:t.n=t.parts.length) (hl:t.parts.length≤9223372036854775807) (hk:t.kind=11) :
    Calls Tryz.prog 63 #[.agg t.cs.toArray] w fun e w'=>e=.returned (.bool (rpB t))∧Below w.heap.size w w':=by
  have HA0:=Lib.hid (At.new w 27 t.cs.toArray)
  obtain ⟨c0,c5,c6,c7,c8⟩:=At.tr_cell HA0.out
  rw[hn] at c5
  have HN:=Lib.hid hn
  clear hn
  rw[hk] at c0
  by_cases hlen:(t.parts.length:Int)=0
  · have dlen:=(int_eq hlen).1
    have HF:=Lib.hid (rp_yes (t:=t) (by omega) (by rw[cnt_none (by omega) (by omega)];exact hlen))
    clear hk hlen
    go_enter Tryz.func63,Tryz.ntmps63
    go_wp2_with fail
    go_ret
    exact ⟨ret_bool HF.out.symm,(Below.refl _ _).alloc (Nat.le_refl _) _⟩
  · have dlen:=(int_ne hlen).1
    have HF:=Lib.hid (rp_no (t:=t) (by rw[cnt_none (by omega) (by omega)];exact hlen))
    clear hk hlen
    go_enter Tryz.func63,Tryz.ntmps63
    go_wp2_with fail
    go_ret
    exact ⟨ret_bool HF.out.symm,(Below.refl _ _).alloc (Nat.le_refl _) _⟩
theorem rightParts_out (t:Tr) (w:World) (hn:t.n=t.parts.length) (hl:t.parts.length≤9223372036854775807) (hk:t.kind<0∨11<t.kind) :
    Calls Tryz.prog 63 #[.agg t.cs.toArray] w fun e w'=>e=.returned (.bool (rpB t))∧Below w.heap.size w w':=by
  have HA0:=Lib.hid (At.new w 27 t.cs.toArray)
  obtain ⟨c0,c5,c6,c7,c8⟩:=At.tr_cell HA0.out
  rw[hn] at c5
  have HN:=Lib.hid hn
  clear hn
  have k0:=(int_ne (show ¬t.kind=0 by omega)).1
  have k1:=(int_ne (show ¬t.kind=1 by omega)).1
  have k2:=(int_ne (show ¬t.kind=2 by omega)).1
  have k3:=(int_ne (show ¬t.kind=3 by omega)).1
  have k4:=(int_ne (show ¬t.kind=4 by omega)).1
  have k5:=(int_ne (show ¬t.kind=5 by omega)).1
  have k6:=(int_ne (show ¬t.kind=6 by omega)).1
  have k7:=(int_ne (show ¬t.kind=7 by omega)).1
  have k8:=(int_ne (show ¬t.kind=8 by omega)).1
  have k9:=(int_ne (show ¬t.kind=9 by omega)).1
  have k10:=(int_ne (show ¬t.kind=10 by omega)).1
  have k11:=(int_ne (show ¬t.kind=11 by omega)).1
  have HF:=Lib.hid (rp_out hk)
  clear hk
  go_enter Tryz.func63,Tryz.ntmps63
  go_wp2_with fail
  go_ret
  exact ⟨ret_bool HF.out.symm,(Below.refl _ _).alloc (Nat.le_refl _) _⟩
theorem treeRightParts (t:Tr) (w:World) (hn:t.n=t.parts.length) (hl:t.parts.length≤9223372036854775807) :
    Calls Tryz.prog 63 #[.agg t.cs.toArray] w fun e w'=>e=.returned (.bool (rpB t))∧Below w.heap.size w w':=by
  by_cases h0:t.kind=0
  · exact rightParts_0 t w hn hl h0
  by_cases h1:t.kind=1
  · exact rightParts_1 t w hn hl h1
  by_cases h2:t.kind=2
  · exact rightParts_2 t w hn hl h2
  by_cases h3:t.kind=3
  · exact rightParts_3 t w hn hl h3
  by_cases h4:t.kind=4
  · exact rightParts_4 t w hn hl h4
  by_cases h5:t.kind=5
  · exact rightParts_5 t w hn hl h5
  by_cases h6:t.kind=6
  · exact rightParts_6 t w hn hl h6
  by_cases h7:t.kind=7
  · exact rightParts_7 t w hn hl h7
  by_cases h8:t.kind=8
  · exact rightParts_8 t w hn hl h8
  by_cases h9:t.kind=9
  · exact rightParts_9 t w hn hl h9
  by_cases h10:t.kind=10
  · exact rightParts_10 t w hn hl h10
  by_cases h11:t.kind=11
  · exact rightParts_11 t w hn hl h11
  exact rightParts_out t w hn hl (by omega)
theorem rt_plain (t:Tr) (w:World) (hn:t.n=t.parts.length) (hl:t.parts.length≤9223372036854775807) (hk:¬t.kind=7∧t.lo=0∧t.hi=0) :
    Calls Tryz.prog 64 #[.agg t.cs.toArray] w fun e w'=>e=.returned (.bool (rtB t))∧Below w.heap.size w w':=by
  have HA0:=Lib.hid (At.new w 27 t.cs.toArray)
  obtain ⟨c0,c5,c6,c7,c8⟩:=At.tr_cell HA0.out
  rw[hn] at c5
  have HN:=Lib.hid hn
  clear hn
  have dk:=(int_ne (show ¬t.kind=7 by omega)).1
  have dkx:=(int_ne (show ¬t.kind=7 by omega)).2
  have dl:=(int_eq (show t.lo=0 by omega)).1
  have dlx:=(int_eq (show t.lo=0 by omega)).2
  have dh:=(int_eq (show t.hi=0 by omega)).1
  have dhx:=(int_eq (show t.hi=0 by omega)).2
  have HF:=Lib.hid (show rtB t=true from decide_eq_true (by unfold timesF;omega))
  clear hk
  go_enter Tryz.func64,Tryz.ntmps64
  go_wp2_with fail
  go_ret
  exact ⟨ret_bool HF.out.symm,(Below.refl _ _).alloc (Nat.le_refl _) _⟩
theorem rt_lo (t:Tr) (w:World) (hn:t.n=t.parts.length) (hl:t.parts.length≤9223372036854775807) (hk:¬t.kind=7∧¬t.lo=0) :
    Calls Tryz.prog 64 #[.agg t.cs.toArray] w fun e w'=>e=.returned (.bool (rtB t))∧Below w.heap.size w w':=by
  have HA0:=Lib.hid (At.new w 27 t.cs.toArray)
  obtain ⟨c0,c5,c6,c7,c8⟩:=At.tr_cell HA0.out
  rw[hn] at c5
  have HN:=Lib.hid hn
  clear hn
  have dk:=(int_ne (show ¬t.kind=7 by omega)).1
  have dkx:=(int_ne (show ¬t.kind=7 by omega)).2
  have dl:=(int_ne (show ¬t.lo=0 by omega)).1
  have dlx:=(int_ne (show ¬t.lo=0 by omega)).2
  have HF:=Lib.hid (show rtB t=false from decide_eq_false (by unfold timesF;omega))
  clear hk
  go_enter Tryz.func64,Tryz.ntmps64
  go_wp2_with fail
  go_ret
  exact ⟨ret_bool HF.out.symm,(Below.refl _ _).alloc (Nat.le_refl _) _⟩
theorem rt_hi (t:Tr) (w:World) (hn:t.n=t.parts.length) (hl:t.parts.length≤9223372036854775807) (hk:¬t.kind=7∧t.lo=0∧¬t.hi=0) :
    Calls Tryz.prog 64 #[.agg t.cs.toArray] w fun e w'=>e=.returned (.bool (rtB t))∧Below w.heap.size w w':=by
  have HA0:=Lib.hid (At.new w 27 t.cs.toArray)
  obtain ⟨c0,c5,c6,c7,c8⟩:=At.tr_cell HA0.out
  rw[hn] at c5
  have HN:=Lib.hid hn
  clear hn
  have dk:=(int_ne (show ¬t.kind=7 by omega)).1
  have dkx:=(int_ne (show ¬t.kind=7 by omega)).2
  have dl:=(int_eq (show t.lo=0 by omega)).1
  have dlx:=(int_eq (show t.lo=0 by omega)).2
  have dh:=(int_ne (show ¬t.hi=0 by omega)).1
  have dhx:=(int_ne (show ¬t.hi=0 by omega)).2
  have HF:=Lib.hid (show rtB t=false from decide_eq_false (by unfold timesF;omega))
  clear hk
  go_enter Tryz.func64,Tryz.ntmps64
  go_wp2_with fail
  go_ret
  exact ⟨ret_bool HF.out.symm,(Below.refl _ _).alloc (Nat.le_refl _) _⟩
theorem rt_low (t:Tr) (w:World) (hn:t.n=t.parts.length) (hl:t.parts.length≤9223372036854775807) (hk:t.kind=7∧t.lo<0) :
    Calls Tryz.prog 64 #[.agg t.cs.toArray] w fun e w'=>e=.returned (.bool (rtB t))∧Below w.heap.size w w':=by
  have HA0:=Lib.hid (At.new w 27 t.cs.toArray)
  obtain ⟨c0,c5,c6,c7,c8⟩:=At.tr_cell HA0.out
  rw[hn] at c5
  have HN:=Lib.hid hn
  clear hn
  have dk:=(int_eq (show t.kind=7 by omega)).1
  have dkx:=(int_eq (show t.kind=7 by omega)).2
  have el:t.lo<0:=by omega
  have dl:=dec_t el
  have HF:=Lib.hid (show rtB t=false from decide_eq_false (by unfold timesF;omega))
  clear hk
  go_enter Tryz.func64,Tryz.ntmps64
  go_wp2_with fail
  go_ret
  exact ⟨ret_bool HF.out.symm,(Below.refl _ _).alloc (Nat.le_refl _) _⟩
theorem rt_high (t:Tr) (w:World) (hn:t.n=t.parts.length) (hl:t.parts.length≤9223372036854775807) (hk:t.kind=7∧¬t.lo<0∧20<t.lo) :
    Calls Tryz.prog 64 #[.agg t.cs.toArray] w fun e w'=>e=.returned (.bool (rtB t))∧Below w.heap.size w w':=by
  have HA0:=Lib.hid (At.new w 27 t.cs.toArray)
  obtain ⟨c0,c5,c6,c7,c8⟩:=At.tr_cell HA0.out
  rw[hn] at c5
  have HN:=Lib.hid hn
  clear hn
  have dk:=(int_eq (show t.kind=7 by omega)).1
  have dkx:=(int_eq (show t.kind=7 by omega)).2
  have el:¬(t.lo<0):=by omega
  have dl:=dec_f el
  have em:20<t.lo:=by omega
  have dm:=dec_t em
  have HF:=Lib.hid (show rtB t=false from decide_eq_false (by unfold timesF;omega))
  clear hk
  go_enter Tryz.func64,Tryz.ntmps64
  go_wp2_with fail
  go_ret
  exact ⟨ret_bool HF.out.symm,(Below.refl _ _).alloc (Nat.le_refl _) _⟩
theorem rt_free (t:Tr) (w:World) (hn:t.n=t.parts.length) (hl:t.parts.length≤9223372036854775807) (hk:t.kind=7∧(¬t.lo<0∧¬20<t.lo)∧t.hi=-1) :
    Calls Tryz.prog 64 #[.agg t.cs.toArray] w fun e w'=>e=.returned (.bool (rtB t))∧Below w.heap.size w w':=by
  have HA0:=Lib.hid (At.new w 27 t.cs.toArray)
  obtain ⟨c0,c5,c6,c7,c8⟩:=At.tr_cell HA0.out
  rw[hn] at c5
  have HN:=Lib.hid hn
  clear hn
  have dk:=(int_eq (show t.kind=7 by omega)).1
  have dkx:=(int_eq (show t.kind=7 by omega)).2
  have el:¬(t.lo<0):=by omega
  have dl:=dec_f el
  have em:¬(20<t.lo):=by omega
  have dm:=dec_f em
  have dh:=(int_eq (show t.hi=-1 by omega)).1
  have dhx:=(int_eq (show t.hi=-1 by omega)).2
  have HF:=Lib.hid (show rtB t=true from decide_eq_true (by unfold timesF;omega))
  clear hk
  go_enter Tryz.func64,Tryz.ntmps64
  go_wp2_with fail
  go_ret
  exact ⟨ret_bool HF.out.symm,(Below.refl _ _).alloc (Nat.le_refl _) _⟩
theorem rt_lessa (t:Tr) (w:World) (hn:t.n=t.parts.length) (hl:t.parts.length≤9223372036854775807) (hk:t.kind=7∧(¬t.lo<0∧¬20<t.lo)∧¬t.hi=-1∧1≤t.lo∧t.hi<t.lo) :
    Calls Tryz.prog 64 #[.agg t.cs.toArray] w fun e w'=>e=.returned (.bool (rtB t))∧Below w.heap.size w w':=by
  have HA0:=Lib.hid (At.new w 27 t.cs.toArray)
  obtain ⟨c0,c5,c6,c7,c8⟩:=At.tr_cell HA0.out
  rw[hn] at c5
  have HN:=Lib.hid hn
  clear hn
  have dk:=(int_eq (show t.kind=7 by omega)).1
  have dkx:=(int_eq (show t.kind=7 by omega)).2
  have el:¬(t.lo<0):=by omega
  have dl:=dec_f el
  have em:¬(20<t.lo):=by omega
  have dm:=dec_f em
  have dh:=(int_ne (show ¬t.hi=-1 by omega)).1
  have dhx:=(int_ne (show ¬t.hi=-1 by omega)).2
  have ex:1≤t.lo:=by omega
  have dx:=dec_t ex
  have el:¬t.lo≤t.hi:=by omega
  have dl2:=dec_f el
  have HF:=Lib.hid (show rtB t=false from decide_eq_false (by unfold timesF;omega))
  clear hk
  go_enter Tryz.func64,Tryz.ntmps64
  go_wp2_with fail
  go_ret
  exact ⟨ret_bool HF.out.symm,(Below.refl _ _).alloc (Nat.le_refl _) _⟩
theorem rt_morea (t:Tr) (w:World) (hn:t.n=t.parts.length) (hl:t.parts.length≤9223372036854775807) (hk:t.kind=7∧(¬t.lo<0∧¬20<t.lo)∧¬t.hi=-1∧1≤t.lo∧t.lo≤t.hi∧20<t.hi) :
    Calls Tryz.prog 64 #[.agg t.cs.toArray] w fun e w'=>e=.returned (.bool (rtB t))∧Below w.heap.size w w':=by
  have HA0:=Lib.hid (At.new w 27 t.cs.toArray)
  obtain ⟨c0,c5,c6,c7,c8⟩:=At.tr_cell HA0.out
  rw[hn] at c5
  have HN:=Lib.hid hn
  clear hn
  have dk:=(int_eq (show t.kind=7 by omega)).1
  have dkx:=(int_eq (show t.kind=7 by omega)).2
  have el:¬(t.lo<0):=by omega
  have dl:=dec_f el
  have em:¬(20<t.lo):=by omega
  have dm:=dec_f em
  have dh:=(int_ne (show ¬t.hi=-1 by omega)).1
  have dhx:=(int_ne (show ¬t.hi=-1 by omega)).2
  have ex:1≤t.lo:=by omega
  have dx:=dec_t ex
  have el:t.lo≤t.hi:=by omega
  have dl2:=dec_t el
  have eh:¬t.hi≤20:=by omega
  have dh2:=dec_f eh
  have HF:=Lib.hid (show rtB t=false from decide_eq_false (by unfold timesF;omega))
  clear hk
  go_enter Tryz.func64,Tryz.ntmps64
  go_wp2_with fail
  go_ret
  exact ⟨ret_bool HF.out.symm,(Below.refl _ _).alloc (Nat.le_refl _) _⟩
theorem rt_gooda (t:Tr) (w:World) (hn:t.n=t.parts.length) (hl:t.parts.length≤9223372036854775807) (hk:t.kind=7∧(¬t.lo<0∧¬20<t.lo)∧¬t.hi=-1∧1≤t.lo∧t.lo≤t.hi∧t.hi≤20) :
    Calls Tryz.prog 64 #[.agg t.cs.toArray] w fun e w'=>e=.returned (.bool (rtB t))∧Below w.heap.size w w':=by
  have HA0:=Lib.hid (At.new w 27 t.cs.toArray)
  obtain ⟨c0,c5,c6,c7,c8⟩:=At.tr_cell HA0.out
  rw[hn] at c5
  have HN:=Lib.hid hn
  clear hn
  have dk:=(int_eq (show t.kind=7 by omega)).1
  have dkx:=(int_eq (show t.kind=7 by omega)).2
  have el:¬(t.lo<0):=by omega
  have dl:=dec_f el
  have em:¬(20<t.lo):=by omega
  have dm:=dec_f em
  have dh:=(int_ne (show ¬t.hi=-1 by omega)).1
  have dhx:=(int_ne (show ¬t.hi=-1 by omega)).2
  have ex:1≤t.lo:=by omega
  have dx:=dec_t ex
  have el:t.lo≤t.hi:=by omega
  have dl2:=dec_t el
  have eh:t.hi≤20:=by omega
  have dh2:=dec_t eh
  have HF:=Lib.hid (show rtB t=true from decide_eq_true (by unfold timesF;omega))
  clear hk
  go_enter Tryz.func64,Tryz.ntmps64
  go_wp2_with fail
  go_ret
  exact ⟨ret_bool HF.out.symm,(Below.refl _ _).alloc (Nat.le_refl _) _⟩
theorem rt_lessb (t:Tr) (w:World) (hn:t.n=t.parts.length) (hl:t.parts.length≤9223372036854775807) (hk:t.kind=7∧(¬t.lo<0∧¬20<t.lo)∧¬t.hi=-1∧¬1≤t.lo∧t.hi<1) :
    Calls Tryz.prog 64 #[.agg t.cs.toArray] w fun e w'=>e=.returned (.bool (rtB t))∧Below w.heap.size w w':=by
  have HA0:=Lib.hid (At.new w 27 t.cs.toArray)
  obtain ⟨c0,c5,c6,c7,c8⟩:=At.tr_cell HA0.out
  rw[hn] at c5
  have HN:=Lib.hid hn
  clear hn
  have dk:=(int_eq (show t.kind=7 by omega)).1
  have dkx:=(int_eq (show t.kind=7 by omega)).2
  have el:¬(t.lo<0):=by omega
  have dl:=dec_f el
  have em:¬(20<t.lo):=by omega
  have dm:=dec_f em
  have dh:=(int_ne (show ¬t.hi=-1 by omega)).1
  have dhx:=(int_ne (show ¬t.hi=-1 by omega)).2
  have ex:¬(1≤t.lo):=by omega
  have dx:=dec_f ex
  have ex2:t.lo<1:=by omega
  have el:¬1≤t.hi:=by omega
  have dl2:=dec_f el
  have HF:=Lib.hid (show rtB t=false from decide_eq_false (by unfold timesF;omega))
  clear hk
  go_enter Tryz.func64,Tryz.ntmps64
  go_wp2_with fail
  go_ret
  exact ⟨ret_bool HF.out.symm,(Below.refl _ _).alloc (Nat.le_refl _) _⟩
theorem rt_moreb (t:Tr) (w:World) (hn:t.n=t.parts.length) (hl:t.parts.length≤9223372036854775807) (hk:t.kind=7∧(¬t.lo<0∧¬20<t.lo)∧¬t.hi=-1∧¬1≤t.lo∧1≤t.hi∧20<t.hi) :
    Calls Tryz.prog 64 #[.agg t.cs.toArray] w fun e w'=>e=.returned (.bool (rtB t))∧Below w.heap.size w w':=by
  have HA0:=Lib.hid (At.new w 27 t.cs.toArray)
  obtain ⟨c0,c5,c6,c7,c8⟩:=At.tr_cell HA0.out
  rw[hn] at c5
  have HN:=Lib.hid hn
  clear hn
  have dk:=(int_eq (show t.kind=7 by omega)).1
  have dkx:=(int_eq (show t.kind=7 by omega)).2
  have el:¬(t.lo<0):=by omega
  have dl:=dec_f el
  have em:¬(20<t.lo):=by omega
  have dm:=dec_f em
  have dh:=(int_ne (show ¬t.hi=-1 by omega)).1
  have dhx:=(int_ne (show ¬t.hi=-1 by omega)).2
  have ex:¬(1≤t.lo):=by omega
  have dx:=dec_f ex
  have ex2:t.lo<1:=by omega
  have el:1≤t.hi:=by omega
  have dl2:=dec_t el
  have eh:¬t.hi≤20:=by omega
  have dh2:=dec_f eh
  have HF:=Lib.hid (show rtB t=false from decide_eq_false (by unfold timesF;omega))
  clear hk
  go_enter Tryz.func64,Tryz.ntmps64
  go_wp2_with fail
  go_ret
  exact ⟨ret_bool HF.out.symm,(Below.refl _ _).alloc (Nat.le_refl _) _⟩
theorem rt_goodb (t:Tr) (w:World) (hn:t.n=t.parts.length) (hl:t.parts.length≤9223372036854775807) (hk:t.kind=7∧(¬t.lo<0∧¬20<t.lo)∧¬t.hi=-1∧¬1≤t.lo∧1≤t.hi∧t.hi≤20) :
    Calls Tryz.prog 64 #[.agg t.cs.toArray] w fun e w'=>e=.returned (.bool (rtB t))∧Below w.heap.size w w':=by
  have HA0:=Lib.hid (At.new w 27 t.cs.toArray)
  obtain ⟨c0,c5,c6,c7,c8⟩:=At.tr_cell HA0.out
  rw[hn] at c5
  have HN:=Lib.hid hn
  clear hn
  have dk:=(int_eq (show t.kind=7 by omega)).1
  have dkx:=(int_eq (show t.kind=7 by omega)).2
  have el:¬(t.lo<0):=by omega
  have dl:=dec_f el
  have em:¬(20<t.lo):=by omega
  have dm:=dec_f em
  have dh:=(int_ne (show ¬t.hi=-1 by omega)).1
  have dhx:=(int_ne (show ¬t.hi=-1 by omega)).2
  have ex:¬(1≤t.lo):=by omega
  have dx:=dec_f ex
  have ex2:t.lo<1:=by omega
  have el:1≤t.hi:=by omega
  have dl2:=dec_t el
  have eh:t.hi≤20:=by omega
  have dh2:=dec_t eh
  have HF:=Lib.hid (show rtB t=true from decide_eq_true (by unfold timesF;omega))
  clear hk
  go_enter Tryz.func64,Tryz.ntmps64
  go_wp2_with fail
  go_ret
  exact ⟨ret_bool HF.out.symm,(Below.refl _ _).alloc (Nat.le_refl _) _⟩
theorem treeRightTimes (t:Tr) (w:World) (hn:t.n=t.parts.length) (hl:t.parts.length≤9223372036854775807) :
    Calls Tryz.prog 64 #[.agg t.cs.toArray] w fun e w'=>e=.returned (.bool (rtB t))∧Below w.heap.size w w':=by
  by_cases h7:t.kind=7
  · by_cases h1:t.lo<0
    · exact rt_low t w hn hl ⟨h7,h1⟩
    by_cases h2:20<t.lo
    · exact rt_high t w hn hl ⟨h7,h1,h2⟩
    by_cases h3:t.hi=-1
    · exact rt_free t w hn hl ⟨h7,⟨h1,h2⟩,h3⟩
    by_cases h4:1≤t.lo
    · by_cases h5:t.hi<t.lo
      · exact rt_lessa t w hn hl ⟨h7,⟨h1,h2⟩,h3,h4,h5⟩
      by_cases h6:20<t.hi
      · exact rt_morea t w hn hl ⟨h7,⟨h1,h2⟩,h3,h4,by omega,h6⟩
      · exact rt_gooda t w hn hl ⟨h7,⟨h1,h2⟩,h3,h4,by omega,by omega⟩
    · by_cases h5:t.hi<1
      · exact rt_lessb t w hn hl ⟨h7,⟨h1,h2⟩,h3,h4,h5⟩
      by_cases h6:20<t.hi
      · exact rt_moreb t w hn hl ⟨h7,⟨h1,h2⟩,h3,h4,by omega,h6⟩
      · exact rt_goodb t w hn hl ⟨h7,⟨h1,h2⟩,h3,h4,by omega,by omega⟩
  · by_cases h1:t.lo=0
    · by_cases h2:t.hi=0
      · exact rt_plain t w hn hl ⟨h7,h1,h2⟩
      · exact rt_hi t w hn hl ⟨h7,h1,h2⟩
    · exact rt_lo t w hn hl ⟨h7,h1⟩
end Go.Proofs.YtgmpfnfomgadeaaGreat
