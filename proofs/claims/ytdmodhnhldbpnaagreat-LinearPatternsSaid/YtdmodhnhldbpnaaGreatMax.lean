/- Joined: TreeRight, TreeSizeS, RefFormedAt, RefFormedA, RefFormedB. -/
import Derived.Test.YtdmodhnhldbpnaaGreatProg
import Derived.Test.YtdmodhnhldbpnaaGreatMaa
import Derived.Test.YtdmodhnhldbpnaaGreatMzy
import Derived.Test.YtdmodhnhldbpnaaGreatMac
import Derived.Test.YtdmodhnhldbpnaaGreatAid
/- What tree's rightParts and rightTimes answer. -/
set_option linter.unusedSimpArgs false
set_option linter.unusedVariables false
set_option maxHeartbeats 64000000
set_option maxRecDepth 100000
namespace Go.Proofs.YtdmodhnhldbpnaaGreat
section
open Go.RowKit
def rpB (t:Tr):Bool:=decide ((0<=t.kind/\t.kind<=11)/\(t.parts.length:Int)=zge t)
theorem znM {t:Tr} (h:0<=t.kind/\t.kind<=11) (h1:(t.parts.length:Int)=zge t):rpB t=true:=qD ⟨h,h1⟩
theorem zt4 {t:Tr} (h:¬(t.parts.length:Int)=zge t):rpB t=false:=qE fun q=>h q.2
theorem zt5 {t:Tr} (h:t.kind<0\/11<t.kind):rpB t=false:=qE fun q=>by omega
def rtB (t:Tr):Bool:=decide ((t.kind=7\/(t.lo=0/\t.hi=0))/\(t.kind=7->zba t))
theorem zbH (t:Tr) (w:World) (hn:t.n=t.parts.length) (hl:t.parts.length<=9223372036854775807) (hk:t.kind=0\/t.kind=1\/t.kind=2\/t.kind=10\/t.kind=11) :
  Calls Tryz.prog 158 #[.agg t.cs.toArray] w fun e w'=>e=.returned (.bool (rpB t))/\Below w.heap.size w w':=by
 rcases hk with hk | hk | hk | hk | hk
 all_goals
  have HA0:=zqh (At.new w 49 t.cs.toArray)
  obtain ⟨c0,c5,c6,c7,c8⟩:=At.tr_cell HA0.out
  rw[hn] at c5
  have HN:=zqh hn
  clear hn
  rw[hk] at c0
  by_cases hlen:(t.parts.length:Int)=0
  ·have dlen:=(zaq hlen).1
   have HF:=zqh (znM (t:=t) (by omega) (by rw[zgf (by omega) (by omega)];exact hlen))
   clear hk hlen
   go_enter Tryz.func158,Tryz.ntmps158
   go_wp2_with fail
   go_ret
   exact ⟨zad HF.out.symm,zqb⟩
  ·have dlen:=(zab hlen).1
   have HF:=zqh (zt4 (t:=t) (by rw[zgf (by omega) (by omega)];exact hlen))
   clear hk hlen
   go_enter Tryz.func158,Tryz.ntmps158
   go_wp2_with fail
   go_ret
   exact ⟨zad HF.out.symm,zqb⟩
theorem zc3 (t:Tr) (w:World) (hn:t.n=t.parts.length) (hl:t.parts.length<=9223372036854775807) (hk:t.kind=3\/t.kind=4\/t.kind=5) :
  Calls Tryz.prog 158 #[.agg t.cs.toArray] w fun e w'=>e=.returned (.bool (rpB t))/\Below w.heap.size w w':=by
 rcases hk with hk | hk | hk
 all_goals
  have HA0:=zqh (At.new w 49 t.cs.toArray)
  obtain ⟨c0,c5,c6,c7,c8⟩:=At.tr_cell HA0.out
  rw[hn] at c5
  have HN:=zqh hn
  clear hn
  rw[hk] at c0
  have HF:=zqh (znM (t:=t) (by omega) (zmx (by omega)).symm)
  clear hk
  go_enter Tryz.func158,Tryz.ntmps158
  go_wp2_with fail
  go_ret
  exact ⟨zad HF.out.symm,zqb⟩
theorem zco (t:Tr) (w:World) (hn:t.n=t.parts.length) (hl:t.parts.length<=9223372036854775807) (hk:t.kind=6\/t.kind=7\/t.kind=8\/t.kind=9) :
  Calls Tryz.prog 158 #[.agg t.cs.toArray] w fun e w'=>e=.returned (.bool (rpB t))/\Below w.heap.size w w':=by
 rcases hk with hk | hk | hk | hk
 all_goals
  have HA0:=zqh (At.new w 49 t.cs.toArray)
  obtain ⟨c0,c5,c6,c7,c8⟩:=At.tr_cell HA0.out
  rw[hn] at c5
  have HN:=zqh hn
  clear hn
  rw[hk] at c0
  by_cases hlen:(t.parts.length:Int)=1
  ·have dlen:=(zaq hlen).1
   have HF:=zqh (znM (t:=t) (by omega) (by rw[zfy (by omega)];exact hlen))
   clear hk hlen
   go_enter Tryz.func158,Tryz.ntmps158
   go_wp2_with fail
   go_ret
   exact ⟨zad HF.out.symm,zqb⟩
  ·have dlen:=(zab hlen).1
   have HF:=zqh (zt4 (t:=t) (by rw[zfy (by omega)];exact hlen))
   clear hk hlen
   go_enter Tryz.func158,Tryz.ntmps158
   go_wp2_with fail
   go_ret
   exact ⟨zad HF.out.symm,zqb⟩
theorem zhl (t:Tr) (w:World) (hn:t.n=t.parts.length) (hl:t.parts.length<=9223372036854775807) (hk:t.kind<0\/11<t.kind) :
  Calls Tryz.prog 158 #[.agg t.cs.toArray] w fun e w'=>e=.returned (.bool (rpB t))/\Below w.heap.size w w':=by
 have HA0:=zqh (At.new w 49 t.cs.toArray)
 obtain ⟨c0,c5,c6,c7,c8⟩:=At.tr_cell HA0.out
 rw[hn] at c5
 have HN:=zqh hn
 clear hn
 have k0:=(zab (show ¬t.kind=0 by omega)).1
 have k1:=(zab (show ¬t.kind=1 by omega)).1
 have k2:=(zab (show ¬t.kind=2 by omega)).1
 have k3:=(zab (show ¬t.kind=3 by omega)).1
 have k4:=(zab (show ¬t.kind=4 by omega)).1
 have k5:=(zab (show ¬t.kind=5 by omega)).1
 have k6:=(zab (show ¬t.kind=6 by omega)).1
 have k7:=(zab (show ¬t.kind=7 by omega)).1
 have k8:=(zab (show ¬t.kind=8 by omega)).1
 have k9:=(zab (show ¬t.kind=9 by omega)).1
 have k10:=(zab (show ¬t.kind=10 by omega)).1
 have k11:=(zab (show ¬t.kind=11 by omega)).1
 have HF:=zqh (zt5 hk)
 clear hk
 go_enter Tryz.func158,Tryz.ntmps158
 go_wp2_with fail
 go_ret
 exact ⟨zad HF.out.symm,zqb⟩
theorem zhm (t:Tr) (w:World) (hn:t.n=t.parts.length) (hl:t.parts.length<=9223372036854775807) :
  Calls Tryz.prog 158 #[.agg t.cs.toArray] w fun e w'=>e=.returned (.bool (rpB t))/\Below w.heap.size w w':=by
 by_cases h0:t.kind=0
 ·exact zbH t w hn hl (by omega)
 by_cases h1:t.kind=1
 ·exact zbH t w hn hl (by omega)
 by_cases h2:t.kind=2
 ·exact zbH t w hn hl (by omega)
 by_cases h3:t.kind=3
 ·exact zc3 t w hn hl (by omega)
 by_cases h4:t.kind=4
 ·exact zc3 t w hn hl (by omega)
 by_cases h5:t.kind=5
 ·exact zc3 t w hn hl (by omega)
 by_cases h6:t.kind=6
 ·exact zco t w hn hl (by omega)
 by_cases h7:t.kind=7
 ·exact zco t w hn hl (by omega)
 by_cases h8:t.kind=8
 ·exact zco t w hn hl (by omega)
 by_cases h9:t.kind=9
 ·exact zco t w hn hl (by omega)
 by_cases h10:t.kind=10
 ·exact zbH t w hn hl (by omega)
 by_cases h11:t.kind=11
 ·exact zbH t w hn hl (by omega)
 exact zhl t w hn hl (by omega)
theorem zpR (t:Tr) (w:World) (hn:t.n=t.parts.length) (hl:t.parts.length<=9223372036854775807) (hk:¬t.kind=7/\t.lo=0/\t.hi=0) :
  Calls Tryz.prog 159 #[.agg t.cs.toArray] w fun e w'=>e=.returned (.bool (rtB t))/\Below w.heap.size w w':=by
 have HA0:=zqh (At.new w 49 t.cs.toArray)
 obtain ⟨c0,c5,c6,c7,c8⟩:=At.tr_cell HA0.out
 rw[hn] at c5
 have HN:=zqh hn
 clear hn
 have dk:=(zab (show ¬t.kind=7 by omega)).1
 have dkx:=(zab (show ¬t.kind=7 by omega)).2
 have dl:=(zaq (show t.lo=0 by omega)).1
 have dlx:=(zaq (show t.lo=0 by omega)).2
 have dh:=(zaq (show t.hi=0 by omega)).1
 have dhx:=(zaq (show t.hi=0 by omega)).2
 have HF:=zqh (show rtB t=true from qD (by unfold zba;omega))
 clear hk
 go_enter Tryz.func159,Tryz.ntmps159
 go_wp2_with fail
 go_ret
 exact ⟨zad HF.out.symm,zqb⟩
theorem zu7 (t:Tr) (w:World) (hn:t.n=t.parts.length) (hl:t.parts.length<=9223372036854775807) (hk:¬t.kind=7/\¬t.lo=0) :
  Calls Tryz.prog 159 #[.agg t.cs.toArray] w fun e w'=>e=.returned (.bool (rtB t))/\Below w.heap.size w w':=by
 have HA0:=zqh (At.new w 49 t.cs.toArray)
 obtain ⟨c0,c5,c6,c7,c8⟩:=At.tr_cell HA0.out
 rw[hn] at c5
 have HN:=zqh hn
 clear hn
 have dk:=(zab (show ¬t.kind=7 by omega)).1
 have dkx:=(zab (show ¬t.kind=7 by omega)).2
 have dl:=(zab (show ¬t.lo=0 by omega)).1
 have dlx:=(zab (show ¬t.lo=0 by omega)).2
 have HF:=zqh (show rtB t=false from qE (by unfold zba;omega))
 clear hk
 go_enter Tryz.func159,Tryz.ntmps159
 go_wp2_with fail
 go_ret
 exact ⟨zad HF.out.symm,zqb⟩
theorem zu8 (t:Tr) (w:World) (hn:t.n=t.parts.length) (hl:t.parts.length<=9223372036854775807) (hk:¬t.kind=7/\t.lo=0/\¬t.hi=0) :
  Calls Tryz.prog 159 #[.agg t.cs.toArray] w fun e w'=>e=.returned (.bool (rtB t))/\Below w.heap.size w w':=by
 have HA0:=zqh (At.new w 49 t.cs.toArray)
 obtain ⟨c0,c5,c6,c7,c8⟩:=At.tr_cell HA0.out
 rw[hn] at c5
 have HN:=zqh hn
 clear hn
 have dk:=(zab (show ¬t.kind=7 by omega)).1
 have dkx:=(zab (show ¬t.kind=7 by omega)).2
 have dl:=(zaq (show t.lo=0 by omega)).1
 have dlx:=(zaq (show t.lo=0 by omega)).2
 have dh:=(zab (show ¬t.hi=0 by omega)).1
 have dhx:=(zab (show ¬t.hi=0 by omega)).2
 have HF:=zqh (show rtB t=false from qE (by unfold zba;omega))
 clear hk
 go_enter Tryz.func159,Tryz.ntmps159
 go_wp2_with fail
 go_ret
 exact ⟨zad HF.out.symm,zqb⟩
theorem zt6 (t:Tr) (w:World) (hn:t.n=t.parts.length) (hl:t.parts.length<=9223372036854775807) (hk:t.kind=7/\t.lo<0) :
  Calls Tryz.prog 159 #[.agg t.cs.toArray] w fun e w'=>e=.returned (.bool (rtB t))/\Below w.heap.size w w':=by
 have HA0:=zqh (At.new w 49 t.cs.toArray)
 obtain ⟨c0,c5,c6,c7,c8⟩:=At.tr_cell HA0.out
 rw[hn] at c5
 have HN:=zqh hn
 clear hn
 have dk:=(zaq (show t.kind=7 by omega)).1
 have dkx:=(zaq (show t.kind=7 by omega)).2
 have el:t.lo<0:=by omega
 have dl:=za6 el
 have HF:=zqh (show rtB t=false from qE (by unfold zba;omega))
 clear hk
 go_enter Tryz.func159,Tryz.ntmps159
 go_wp2_with fail
 go_ret
 exact ⟨zad HF.out.symm,zqb⟩
theorem zsy (t:Tr) (w:World) (hn:t.n=t.parts.length) (hl:t.parts.length<=9223372036854775807) (hk:t.kind=7/\¬t.lo<0/\20<t.lo) :
  Calls Tryz.prog 159 #[.agg t.cs.toArray] w fun e w'=>e=.returned (.bool (rtB t))/\Below w.heap.size w w':=by
 have HA0:=zqh (At.new w 49 t.cs.toArray)
 obtain ⟨c0,c5,c6,c7,c8⟩:=At.tr_cell HA0.out
 rw[hn] at c5
 have HN:=zqh hn
 clear hn
 have dk:=(zaq (show t.kind=7 by omega)).1
 have dkx:=(zaq (show t.kind=7 by omega)).2
 have el:¬(t.lo<0):=by omega
 have dl:=za0 el
 have em:20<t.lo:=by omega
 have dm:=za6 em
 have HF:=zqh (show rtB t=false from qE (by unfold zba;omega))
 clear hk
 go_enter Tryz.func159,Tryz.ntmps159
 go_wp2_with fail
 go_ret
 exact ⟨zad HF.out.symm,zqb⟩
theorem zsz (t:Tr) (w:World) (hn:t.n=t.parts.length) (hl:t.parts.length<=9223372036854775807) (hk:t.kind=7/\(¬t.lo<0/\¬20<t.lo)/\t.hi=-1) :
  Calls Tryz.prog 159 #[.agg t.cs.toArray] w fun e w'=>e=.returned (.bool (rtB t))/\Below w.heap.size w w':=by
 have HA0:=zqh (At.new w 49 t.cs.toArray)
 obtain ⟨c0,c5,c6,c7,c8⟩:=At.tr_cell HA0.out
 rw[hn] at c5
 have HN:=zqh hn
 clear hn
 have dk:=(zaq (show t.kind=7 by omega)).1
 have dkx:=(zaq (show t.kind=7 by omega)).2
 have el:¬(t.lo<0):=by omega
 have dl:=za0 el
 have em:¬(20<t.lo):=by omega
 have dm:=za0 em
 have dh:=(zaq (show t.hi=-1 by omega)).1
 have dhx:=(zaq (show t.hi=-1 by omega)).2
 have HF:=zqh (show rtB t=true from qD (by unfold zba;omega))
 clear hk
 go_enter Tryz.func159,Tryz.ntmps159
 go_wp2_with fail
 go_ret
 exact ⟨zad HF.out.symm,zqb⟩
theorem zpS (t:Tr) (w:World) (hn:t.n=t.parts.length) (hl:t.parts.length<=9223372036854775807) (hk:t.kind=7/\(¬t.lo<0/\¬20<t.lo)/\¬t.hi=-1/\1<=t.lo/\t.hi<t.lo) :
  Calls Tryz.prog 159 #[.agg t.cs.toArray] w fun e w'=>e=.returned (.bool (rtB t))/\Below w.heap.size w w':=by
 have HA0:=zqh (At.new w 49 t.cs.toArray)
 obtain ⟨c0,c5,c6,c7,c8⟩:=At.tr_cell HA0.out
 rw[hn] at c5
 have HN:=zqh hn
 clear hn
 have dk:=(zaq (show t.kind=7 by omega)).1
 have dkx:=(zaq (show t.kind=7 by omega)).2
 have el:¬(t.lo<0):=by omega
 have dl:=za0 el
 have em:¬(20<t.lo):=by omega
 have dm:=za0 em
 have dh:=(zab (show ¬t.hi=-1 by omega)).1
 have dhx:=(zab (show ¬t.hi=-1 by omega)).2
 have ex:1<=t.lo:=by omega
 have dx:=za6 ex
 have el:¬t.lo<=t.hi:=by omega
 have dl2:=za0 el
 have HF:=zqh (show rtB t=false from qE (by unfold zba;omega))
 clear hk
 go_enter Tryz.func159,Tryz.ntmps159
 go_wp2_with fail
 go_ret
 exact ⟨zad HF.out.symm,zqb⟩
theorem zpT (t:Tr) (w:World) (hn:t.n=t.parts.length) (hl:t.parts.length<=9223372036854775807) (hk:t.kind=7/\(¬t.lo<0/\¬20<t.lo)/\¬t.hi=-1/\1<=t.lo/\t.lo<=t.hi/\20<t.hi) :
  Calls Tryz.prog 159 #[.agg t.cs.toArray] w fun e w'=>e=.returned (.bool (rtB t))/\Below w.heap.size w w':=by
 have HA0:=zqh (At.new w 49 t.cs.toArray)
 obtain ⟨c0,c5,c6,c7,c8⟩:=At.tr_cell HA0.out
 rw[hn] at c5
 have HN:=zqh hn
 clear hn
 have dk:=(zaq (show t.kind=7 by omega)).1
 have dkx:=(zaq (show t.kind=7 by omega)).2
 have el:¬(t.lo<0):=by omega
 have dl:=za0 el
 have em:¬(20<t.lo):=by omega
 have dm:=za0 em
 have dh:=(zab (show ¬t.hi=-1 by omega)).1
 have dhx:=(zab (show ¬t.hi=-1 by omega)).2
 have ex:1<=t.lo:=by omega
 have dx:=za6 ex
 have el:t.lo<=t.hi:=by omega
 have dl2:=za6 el
 have eh:¬t.hi<=20:=by omega
 have dh2:=za0 eh
 have HF:=zqh (show rtB t=false from qE (by unfold zba;omega))
 clear hk
 go_enter Tryz.func159,Tryz.ntmps159
 go_wp2_with fail
 go_ret
 exact ⟨zad HF.out.symm,zqb⟩
theorem zpU (t:Tr) (w:World) (hn:t.n=t.parts.length) (hl:t.parts.length<=9223372036854775807) (hk:t.kind=7/\(¬t.lo<0/\¬20<t.lo)/\¬t.hi=-1/\1<=t.lo/\t.lo<=t.hi/\t.hi<=20) :
  Calls Tryz.prog 159 #[.agg t.cs.toArray] w fun e w'=>e=.returned (.bool (rtB t))/\Below w.heap.size w w':=by
 have HA0:=zqh (At.new w 49 t.cs.toArray)
 obtain ⟨c0,c5,c6,c7,c8⟩:=At.tr_cell HA0.out
 rw[hn] at c5
 have HN:=zqh hn
 clear hn
 have dk:=(zaq (show t.kind=7 by omega)).1
 have dkx:=(zaq (show t.kind=7 by omega)).2
 have el:¬(t.lo<0):=by omega
 have dl:=za0 el
 have em:¬(20<t.lo):=by omega
 have dm:=za0 em
 have dh:=(zab (show ¬t.hi=-1 by omega)).1
 have dhx:=(zab (show ¬t.hi=-1 by omega)).2
 have ex:1<=t.lo:=by omega
 have dx:=za6 ex
 have el:t.lo<=t.hi:=by omega
 have dl2:=za6 el
 have eh:t.hi<=20:=by omega
 have dh2:=za6 eh
 have HF:=zqh (show rtB t=true from qD (by unfold zba;omega))
 clear hk
 go_enter Tryz.func159,Tryz.ntmps159
 go_wp2_with fail
 go_ret
 exact ⟨zad HF.out.symm,zqb⟩
theorem zpV (t:Tr) (w:World) (hn:t.n=t.parts.length) (hl:t.parts.length<=9223372036854775807) (hk:t.kind=7/\(¬t.lo<0/\¬20<t.lo)/\¬t.hi=-1/\¬1<=t.lo/\t.hi<1) :
  Calls Tryz.prog 159 #[.agg t.cs.toArray] w fun e w'=>e=.returned (.bool (rtB t))/\Below w.heap.size w w':=by
 have HA0:=zqh (At.new w 49 t.cs.toArray)
 obtain ⟨c0,c5,c6,c7,c8⟩:=At.tr_cell HA0.out
 rw[hn] at c5
 have HN:=zqh hn
 clear hn
 have dk:=(zaq (show t.kind=7 by omega)).1
 have dkx:=(zaq (show t.kind=7 by omega)).2
 have el:¬(t.lo<0):=by omega
 have dl:=za0 el
 have em:¬(20<t.lo):=by omega
 have dm:=za0 em
 have dh:=(zab (show ¬t.hi=-1 by omega)).1
 have dhx:=(zab (show ¬t.hi=-1 by omega)).2
 have ex:¬(1<=t.lo):=by omega
 have dx:=za0 ex
 have ex2:t.lo<1:=by omega
 have el:¬1<=t.hi:=by omega
 have dl2:=za0 el
 have HF:=zqh (show rtB t=false from qE (by unfold zba;omega))
 clear hk
 go_enter Tryz.func159,Tryz.ntmps159
 go_wp2_with fail
 go_ret
 exact ⟨zad HF.out.symm,zqb⟩
theorem zpW (t:Tr) (w:World) (hn:t.n=t.parts.length) (hl:t.parts.length<=9223372036854775807) (hk:t.kind=7/\(¬t.lo<0/\¬20<t.lo)/\¬t.hi=-1/\¬1<=t.lo/\1<=t.hi/\20<t.hi) :
  Calls Tryz.prog 159 #[.agg t.cs.toArray] w fun e w'=>e=.returned (.bool (rtB t))/\Below w.heap.size w w':=by
 have HA0:=zqh (At.new w 49 t.cs.toArray)
 obtain ⟨c0,c5,c6,c7,c8⟩:=At.tr_cell HA0.out
 rw[hn] at c5
 have HN:=zqh hn
 clear hn
 have dk:=(zaq (show t.kind=7 by omega)).1
 have dkx:=(zaq (show t.kind=7 by omega)).2
 have el:¬(t.lo<0):=by omega
 have dl:=za0 el
 have em:¬(20<t.lo):=by omega
 have dm:=za0 em
 have dh:=(zab (show ¬t.hi=-1 by omega)).1
 have dhx:=(zab (show ¬t.hi=-1 by omega)).2
 have ex:¬(1<=t.lo):=by omega
 have dx:=za0 ex
 have ex2:t.lo<1:=by omega
 have el:1<=t.hi:=by omega
 have dl2:=za6 el
 have eh:¬t.hi<=20:=by omega
 have dh2:=za0 eh
 have HF:=zqh (show rtB t=false from qE (by unfold zba;omega))
 clear hk
 go_enter Tryz.func159,Tryz.ntmps159
 go_wp2_with fail
 go_ret
 exact ⟨zad HF.out.symm,zqb⟩
theorem zpX (t:Tr) (w:World) (hn:t.n=t.parts.length) (hl:t.parts.length<=9223372036854775807) (hk:t.kind=7/\(¬t.lo<0/\¬20<t.lo)/\¬t.hi=-1/\¬1<=t.lo/\1<=t.hi/\t.hi<=20) :
  Calls Tryz.prog 159 #[.agg t.cs.toArray] w fun e w'=>e=.returned (.bool (rtB t))/\Below w.heap.size w w':=by
 have HA0:=zqh (At.new w 49 t.cs.toArray)
 obtain ⟨c0,c5,c6,c7,c8⟩:=At.tr_cell HA0.out
 rw[hn] at c5
 have HN:=zqh hn
 clear hn
 have dk:=(zaq (show t.kind=7 by omega)).1
 have dkx:=(zaq (show t.kind=7 by omega)).2
 have el:¬(t.lo<0):=by omega
 have dl:=za0 el
 have em:¬(20<t.lo):=by omega
 have dm:=za0 em
 have dh:=(zab (show ¬t.hi=-1 by omega)).1
 have dhx:=(zab (show ¬t.hi=-1 by omega)).2
 have ex:¬(1<=t.lo):=by omega
 have dx:=za0 ex
 have ex2:t.lo<1:=by omega
 have el:1<=t.hi:=by omega
 have dl2:=za6 el
 have eh:t.hi<=20:=by omega
 have dh2:=za6 eh
 have HF:=zqh (show rtB t=true from qD (by unfold zba;omega))
 clear hk
 go_enter Tryz.func159,Tryz.ntmps159
 go_wp2_with fail
 go_ret
 exact ⟨zad HF.out.symm,zqb⟩
theorem zhn (t:Tr) (w:World) (hn:t.n=t.parts.length) (hl:t.parts.length<=9223372036854775807) :
  Calls Tryz.prog 159 #[.agg t.cs.toArray] w fun e w'=>e=.returned (.bool (rtB t))/\Below w.heap.size w w':=by
 by_cases h7:t.kind=7
 ·by_cases h1:t.lo<0
  ·exact zt6 t w hn hl ⟨h7,h1⟩
  by_cases h2:20<t.lo
  ·exact zsy t w hn hl ⟨h7,h1,h2⟩
  by_cases h3:t.hi=-1
  ·exact zsz t w hn hl ⟨h7,⟨h1,h2⟩,h3⟩
  by_cases h4:1<=t.lo
  ·by_cases h5:t.hi<t.lo
   ·exact zpS t w hn hl ⟨h7,⟨h1,h2⟩,h3,h4,h5⟩
   by_cases h6:20<t.hi
   ·exact zpT t w hn hl ⟨h7,⟨h1,h2⟩,h3,h4,by omega,h6⟩
   ·exact zpU t w hn hl ⟨h7,⟨h1,h2⟩,h3,h4,by omega,by omega⟩
  ·by_cases h5:t.hi<1
   ·exact zpV t w hn hl ⟨h7,⟨h1,h2⟩,h3,h4,h5⟩
   by_cases h6:20<t.hi
   ·exact zpW t w hn hl ⟨h7,⟨h1,h2⟩,h3,h4,by omega,h6⟩
   ·exact zpX t w hn hl ⟨h7,⟨h1,h2⟩,h3,h4,by omega,by omega⟩
 ·by_cases h1:t.lo=0
  ·by_cases h2:t.hi=0
   ·exact zpR t w hn hl ⟨h7,h1,h2⟩
   ·exact zu8 t w hn hl ⟨h7,h1,h2⟩
  ·exact zu7 t w hn hl ⟨h7,h1⟩
end

section
open Go.RowKit
def zjv (lo hi:Int):Int:=if hi<=lo then (if 1<=lo then lo else 1) else (if 1<=hi then hi else 1)
def zbe (kind lo hi s:Int):Int:=if kind=7/\0<s then zal (zjv lo hi) else 1
def zcK:Nat->Int->Tr->Int
 | 0,_,_=>0
 | k+1,L,t=>if 40<L then 1001 else zal (1+zb3 (t.parts.map (zcK k (L+1)))*zbe t.kind t.lo t.hi (zb3 (t.parts.map (zcK k (L+1)))))
theorem znN (lo hi:Int):1<=zjv lo hi:=by unfold zjv;(repeat' split)<;>omega
theorem zim (kind lo hi s:Int):1<=zbe kind lo hi s/\zbe kind lo hi s<=1001:=by
 have:=znN lo hi
 unfold zbe zal;(repeat' split)<;>omega
theorem zgm:∀(k:Nat) (L:Int) (t:Tr),0<=zcK k L t
 | 0,_,_=>gE _
 | k+1,L,t=>by
  show 0<=(if 40<L then 1001 else zal (1+_*_))
  split
  ·omega
  ·refine zd1 _ ?_
   have h:=zeu (t.parts.map (zcK k (L+1))) (by
    intro x hx
    rw[yN] at hx
    obtain ⟨p,_,rfl⟩:=hx
    exact zgm k _ p)
   have:=Int.mul_nonneg h (show 0<=zbe t.kind t.lo t.hi (zb3 (t.parts.map (zcK k (L+1)))) by have:=zim t.kind t.lo t.hi (zb3 (t.parts.map (zcK k (L+1))));omega)
   omega
theorem zpY (k:Nat) (L:Int) (t:Tr):zcK k L t<=1001:=by
 cases k with
 | zero=>show (0:Int)<=1001;omega
 | succ k =>
  show (if 40<L then 1001 else zal (1+_*_))<=1001
  split
  ·omega
  ·exact zd0 _
def zce (k:Nat) (L:Int) (t:Tr) (j:Nat):Int:=zb3 ((t.parts.take j).map (zcK k L))
theorem zi8 (k:Nat) (L:Int) (t:Tr):zce k L t 0=0:=rfl
theorem zdQ (k:Nat) (L:Int) (t:Tr) (j:Nat) (h:j<t.parts.length):zce k L t (j+1)=zal (zce k L t j+zcK k L t.parts[j]):=by
 unfold zce;rw[qW h,jE,List.map_singleton,zeT]
theorem zfZ (k:Nat) (L:Int) (t:Tr) (j:Nat):∀i,zce k L t j=1001->j+i<=t.parts.length->zce k L t (j+i)=1001
 | 0,h,_=>h
 | i+1,h,hl=>by
  have h1:=zfZ k L t j i h (by omega)
  rw[show j+(i+1)=(j+i)+1 by omega,zdQ k L t (j+i) (by omega),h1]
  have:=zgm k L (t.parts[j+i]'(by omega))
  unfold zal;split<;>omega
theorem zl6 (k:Nat) {L:Int} (t:Tr) (h:40<L):zcK (k+1) L t=1001:=by show (if _ then _ else _)=_;rw[if_pos h]
theorem zi9 (k:Nat) {L:Int} (t:Tr) (h:¬40<L):zal (1+zce k (L+1) t t.parts.length*zbe t.kind t.lo t.hi (zce k (L+1) t t.parts.length))=zcK (k+1) L t:=by
 unfold zce;rw[qQ];show _=(if _ then _ else _);rw[if_neg h]
theorem zj8 (k:Nat) {L:Int} (t:Tr) (h:¬40<L) (j:Nat) (hj:j<t.parts.length) (hs:1001<=zce k (L+1) t j+zcK k (L+1) t.parts[j]):zcK (k+1) L t=1001:=by
 have h1:zce k (L+1) t (j+1)=1001:=by rw[zdQ k (L+1) t j hj];unfold zal;split<;>omega
 have h2:=zfZ k (L+1) t (j+1) (t.parts.length-(j+1)) h1 (by omega)
 rw[show j+1+(t.parts.length-(j+1))=t.parts.length by omega] at h2
 rw[<-zi9 k t h,h2]
 obtain ⟨o,ho⟩:∃o,zbe t.kind t.lo t.hi 1001=o:=⟨_,rfl⟩
 have:=zim t.kind t.lo t.hi 1001
 rw[ho] at this ⊢
 unfold zal;split<;>omega
theorem zpZ:∀(l:List Int),(∀x∈l,0<=x)->1001∈l->zb3 l=1001:=by
 have key:∀(l:List Int) (a:Int),0<=a->a<=1001->(∀x∈l,0<=x)->(a=1001\/1001∈l)->l.foldl (fun n x=>zal (n+x)) a=1001:=by
  intro l
  induction l with
  | nil=>intro a _ _ _ h;rcases h with h | h;exact h;cases h
  | cons y r ih =>
   intro a h0 h1 hl h
   rw[xS]
   have hy:=hl y (by simp)
   refine ih _ (zd1 _ (by omega)) (zd0 _) (fun x hx=>hl x (qX _ hx)) ?_
   rcases h with h | h
   ·left;unfold zal;split<;>omega
   ·rcases List.mem_cons.1 h with e | h
    ·left;unfold zal;split<;>omega
    ·exact Or.inr h
 intro l hl h
 exact key l 0 (by omega) (by omega) hl (Or.inr h)
theorem zp0 (l:List Int):zgd l=0\/zgd l∈l:=by
 have key:∀(l:List Int) (a:Int),l.foldl max a=a\/l.foldl max a∈l:=by
  intro l
  induction l with
  | nil=>intro a;exact Or.inl rfl
  | cons y r ih =>
   intro a
   rw[xS]
   rcases ih (max a y) with h | h
   ·rw[h]
    by_cases q:y<=a
    ·exact Or.inl (by omega)
    ·exact Or.inr (by rw[show max a y=y by omega];simp)
   ·exact Or.inr (qX _ h)
 exact key l 0
theorem zp1 (l:List Int) (x:Int) (hx:x∈l):x<=zgd l:=by
 have:∀(l:List Int) (a x:Int),(x∈l\/x<=a)->x<=l.foldl max a:=by
  intro l
  induction l with
  | nil=>intro a x h;rcases h with h | h;cases h;exact h
  | cons y r ih =>
   intro a x h
   rw[xS]
   refine ih _ _ ?_
   rcases h with h | h
   ·rcases List.mem_cons.1 h with rfl | h
    ·exact Or.inr (by omega)
    ·exact Or.inl h
   ·exact Or.inr (by omega)
 exact this l 0 x (Or.inl hx)
theorem zj9 (kind lo hi s:Int) (h0:0<=s):zal (1+s*zbe kind lo hi s)=zal ((if kind=7 then s*zaC lo hi else s)+1):=by
 by_cases h7:kind=7
 ·rw[if_pos h7]
  by_cases hs:0<s
  ·have e:zbe kind lo hi s=zal (zjv lo hi):=by unfold zbe;rw[if_pos ⟨h7,hs⟩]
   rw[e]
   have hm:=znN lo hi
   by_cases q:zjv lo hi<=1001
   ·have e2:zaC lo hi=zjv lo hi:=by unfold zaC zbs zbr;unfold zjv at q ⊢;(repeat' split)<;>(repeat' split at q)<;>omega
    rw[e2,zaB (x:=zjv lo hi) (by omega),Int.add_comm]
   ·have e2:1002<=zaC lo hi:=by unfold zaC zbs zbr;unfold zjv at q;(repeat' split at q)<;>(repeat' split)<;>omega
    rw[zaw (by omega:1001<zjv lo hi)]
    have a1:1002<=s*zaC lo hi:=by
     have:=Int.mul_le_mul (show (1:Int)<=s by omega) e2 (by omega) (by omega)
     omega
    rw[zaw (by omega),zaw (by omega)]
  ·have:s=0:=by omega
   subst this
   rw[Int.zero_mul,Int.zero_mul];rfl
 ·rw[if_neg h7]
  have e:zbe kind lo hi s=1:=by unfold zbe;rw[if_neg (fun q=>h7 q.1)]
  rw[e,Int.mul_one,Int.add_comm]
theorem zkY:∀(k:Nat) (L:Int) (t:Tr),L<=41->zcK k L t=if 41-L<zbj k (41-L) t then 1001 else zam k t
 | 0,L,t,h=>by
  show (0:Int)=if 41-L<0 then 1001 else 0
  rw[if_neg (by omega)]
 | k+1,L,t,h=>by
  show (if 40<L then 1001 else _)=if 41-L<(if 41-L<1 then 1 else 1+zgd (t.parts.map (zbj k (41-L-1)))) then 1001 else _
  by_cases hL:40<L
  ·rw[if_pos hL,if_pos (by rw[if_pos (by omega)];omega)]
  ·rw[if_neg hL,if_neg (show ¬41-L<1 by omega)]
   have ih:∀p,zcK k (L+1) p=if 41-L-1<zbj k (41-L-1) p then 1001 else zam k p:=fun p=>by
    have:=zkY k (L+1) p (by omega)
    rwa [show 41-(L+1)=41-L-1 by omega] at this
   by_cases hd:41-L<1+zgd (t.parts.map (zbj k (41-L-1)))
   ·rw[if_pos hd]
    rcases zp0 (t.parts.map (zbj k (41-L-1))) with hz | hm
    ·omega
    ·rw[yN] at hm
     obtain ⟨p,hp,he⟩:=hm
     have hb:zb3 (t.parts.map (zcK k (L+1)))=1001:=zpZ _ (by
      intro x hx
      rw[yN] at hx
      obtain ⟨p,_,rfl⟩:=hx
      exact zgm k _ p) (List.mem_map.2 ⟨p,hp,by rw[ih p,if_pos (by omega)]⟩)
     rw[hb]
     obtain ⟨o,ho⟩:∃o,zbe t.kind t.lo t.hi 1001=o:=⟨_,rfl⟩
     have:=zim t.kind t.lo t.hi 1001
     rw[ho] at this ⊢
     unfold zal;split<;>omega
   ·rw[if_neg hd]
    have e:t.parts.map (zcK k (L+1))=t.parts.map (zam k):=gL fun p hp=>by
     have:=zp1 (t.parts.map (zbj k (41-L-1))) _ (List.mem_map.2 ⟨p,hp,rfl⟩)
     rw[ih p,if_neg (by omega)]
    rw[e,zj9 _ _ _ _ (zeu _ (by
     intro x hx
     rw[yN] at hx
     obtain ⟨p,_,rfl⟩:=hx
     exact zcA k p))]
    rfl
theorem znO (k:Nat) (t:Tr):(decide (zcK k 1 t<=1000)&&zah k t)=(decide (zbj k 40 t<41)&&(zah k t&&decide (zam k t<1001))):=by
 have h:=zkY k 1 t (by omega)
 rw[show (41:Int)-1=40 by omega] at h
 rw[h]
 by_cases hd:40<zbj k 40 t
 ·rw[if_pos hd,qE (by omega),qE (show ¬zbj k 40 t<41 by omega)];rfl
 ·rw[if_neg hd,qD (show zbj k 40 t<41 by omega),jS,Bool.and_comm]
  congr 1
  exact decide_eq_decide.2 (by omega)
end

section
open Go.RowKit
def zdw (k:Nat):Prop:=∀(t:Tr) (w:World),Tr.In w k t->Calls Tryz.prog 47 #[.agg t.cs.toArray] w fun e w'=>e=.returned (.bool (zah k t))/\Below w.heap.size w w'
end

section
open Go.RowKit
theorem zp2 (k:Nat) (ih:zdw k) (t:Tr) (w:World) (h:Tr.In w (k+1) t) (hk:t.kind=0\/t.kind=1\/t.kind=10\/t.kind=11) :
  Calls Tryz.prog 47 #[.agg t.cs.toArray] w fun e w'=>e=.returned (.bool (zah (k+1) t))/\Below w.heap.size w w':=by
 have hlenz:t.parts.length<=9223372036854775807:=by have:=h.2.1;omega
 have hn:=h.2.1.1
 have HN:=zqh hn
 have HI:=zqh h
 have HIH:=zqh ih
 clear h ih
 have HA0:=zqh (At.new w 49 t.cs.toArray)
 obtain ⟨c0,c5,c6,c7,c8⟩:=At.tr_cell HA0.out
 obtain ⟨s1,s2,s3,s4⟩:=At.tr_set HA0.out
 have hcnt:zge t=0:=zgf (by omega) (by omega)
 have k2:=(zab (show ¬t.kind=2 by omega)).1
 have k2x:=(zab (show ¬t.kind=2 by omega)).2
 have k3:=(zab (show ¬t.kind=3 by omega)).1
 have k3x:=(zab (show ¬t.kind=3 by omega)).2
 have k4:=(zab (show ¬t.kind=4 by omega)).1
 have k4x:=(zab (show ¬t.kind=4 by omega)).2
 have k5:=(zab (show ¬t.kind=5 by omega)).1
 have k5x:=(zab (show ¬t.kind=5 by omega)).2
 have k6:=(zab (show ¬t.kind=6 by omega)).1
 have k6x:=(zab (show ¬t.kind=6 by omega)).2
 have k7:=(zab (show ¬t.kind=7 by omega)).1
 have k7x:=(zab (show ¬t.kind=7 by omega)).2
 have k8:=(zab (show ¬t.kind=8 by omega)).1
 have k8x:=(zab (show ¬t.kind=8 by omega)).2
 have k9:=(zab (show ¬t.kind=9 by omega)).1
 have k9x:=(zab (show ¬t.kind=9 by omega)).2
 have kl:=za0 (show ¬t.kind<0 by omega)
 have kh:=za0 (show ¬11<t.kind by omega)
 go_enter Tryz.func47,Tryz.ntmps47
 by_cases hlen:(t.parts.length:Int)=0
 ·have dlen:=(zaq hlen).1
  have dlenx:=(zaq hlen).2
  by_cases hset:t.set.eqb St.nil=true
  ·have ds:∀W,(Op.equalIn 10000 46 (.agg #[.int .u64 t.set.w0,.int .u64 t.set.w1,.int .u64 t.set.w2,.int .u64 t.set.w3]) (.agg #[.int .u64 0,.int .u64 0,.int .u64 0,.int .u64 0])).run Tryz.prog W=.ok true W:=fun W=>zf7 W t.set St.nil true hset
   by_cases hneg:t.neg=false
   ·rw[hneg] at c8
    by_cases hlo:t.lo=0
    ·have dlo:=(zaq hlo).1
     have dlox:=(zaq hlo).2
     by_cases hhi:t.hi=0
     ·have dhi:=(zaq hhi).1
      have dhix:=(zaq hhi).2
      have HO:=zqh (zdg (t:=t) (by omega) (by rw[hcnt];exact hlen) (.inr hset) (.inr (.inr hneg)) (.inr ⟨hlo,hhi⟩) (fun h=>absurd h (by omega)))
      clear hk
      go_wp2_with fail
      clear c0 c5 c6 c7 c8 s1 s2 s3 s4
      go_loopw [108] (fun i wr=>∃j:Nat,j<=t.parts.length/\i=.int .i64 j/\Hid (zbu k t j=true)/\Hid (At wr w.heap.size 49 t.cs.toArray)/\Hid (Below w.heap.size w wr)) (fun i _=>t.parts.length-(intOf i).toNat)
      case atStart=>exact ⟨0,qK _,rfl,zqh (zbb _),HA0,zqh (zqb)⟩
      case round =>
       obtain ⟨j,hj,rfl,hT,hA,hB⟩:=hrel
       by_cases hlt:j<t.parts.length
       ·exact absurd hlt (by omega)
       ·obtain rfl:j=t.parts.length:=by omega
        go_wp2_with fail
        go_ret
        exact ⟨zad (zbC HO.out hT.out).symm,hB.out⟩
     ·have dhi:=(zab hhi).1
      have dhix:=(zab hhi).2
      have HF:=zqh (zaj (k:=k) (zgu (by omega) hhi))
      clear hk
      go_wp2_with fail
      go_ret
      exact ⟨zad HF.out.symm,zqb⟩
    ·have dlo:=(zab hlo).1
     have dlox:=(zab hlo).2
     have HF:=zqh (zaj (k:=k) (zgt (by omega) hlo))
     clear hk
     go_wp2_with fail
     go_ret
     exact ⟨zad HF.out.symm,zqb⟩
   ·have hnegt:t.neg=true:=by simpa using hneg
    rw[hnegt] at c8
    have HF:=zqh (zaj (k:=k) (zeO (by omega) (by omega) hnegt))
    clear hk
    go_wp2_with fail
    go_ret
    exact ⟨zad HF.out.symm,zqb⟩
  ·have hsetf:t.set.eqb St.nil=false:=by simpa using hset
   have ds:∀W,(Op.equalIn 10000 46 (.agg #[.int .u64 t.set.w0,.int .u64 t.set.w1,.int .u64 t.set.w2,.int .u64 t.set.w3]) (.agg #[.int .u64 0,.int .u64 0,.int .u64 0,.int .u64 0])).run Tryz.prog W=.ok false W:=fun W=>zf7 W t.set St.nil false hsetf
   have HF:=zqh (zaj (k:=k) (zeN (by omega) hsetf))
   clear hk
   go_wp2_with fail
   go_ret
   exact ⟨zad HF.out.symm,zqb⟩
 ·have dlen:=(zab hlen).1
  have dlenx:=(zab hlen).2
  have HF:=zqh (zaj (k:=k) (zeM (by rw[hcnt];exact hlen)))
  clear hk
  go_wp2_with fail
  go_ret
  exact ⟨zad HF.out.symm,zqb⟩
theorem zp3 (k:Nat) (ih:zdw k) (t:Tr) (w:World) (h:Tr.In w (k+1) t) (hk:t.kind=2) :
  Calls Tryz.prog 47 #[.agg t.cs.toArray] w fun e w'=>e=.returned (.bool (zah (k+1) t))/\Below w.heap.size w w':=by
 have hlenz:t.parts.length<=9223372036854775807:=by have:=h.2.1;omega
 have hn:=h.2.1.1
 have HN:=zqh hn
 have HI:=zqh h
 have HIH:=zqh ih
 clear h ih
 have HA0:=zqh (At.new w 49 t.cs.toArray)
 obtain ⟨c0,c5,c6,c7,c8⟩:=At.tr_cell HA0.out
 obtain ⟨s1,s2,s3,s4⟩:=At.tr_set HA0.out
 have hcnt:zge t=0:=zgf (by omega) (by omega)
 rw[hk] at c0
 go_enter Tryz.func47,Tryz.ntmps47
 by_cases hlen:(t.parts.length:Int)=0
 ·have dlen:=(zaq hlen).1
  have dlenx:=(zaq hlen).2
  by_cases hneg:t.neg=false
  ·rw[hneg] at c8
   by_cases hlo:t.lo=0
   ·have dlo:=(zaq hlo).1
    have dlox:=(zaq hlo).2
    by_cases hhi:t.hi=0
    ·have dhi:=(zaq hhi).1
     have dhix:=(zaq hhi).2
     have HO:=zqh (zdg (t:=t) (by omega) (by rw[hcnt];exact hlen) (.inl hk) (.inr (.inr hneg)) (.inr ⟨hlo,hhi⟩) (fun h=>absurd h (by omega)))
     clear hk
     go_wp2_with fail
     clear c0 c5 c6 c7 c8 s1 s2 s3 s4
     go_loopw [108] (fun i wr=>∃j:Nat,j<=t.parts.length/\i=.int .i64 j/\Hid (zbu k t j=true)/\Hid (At wr w.heap.size 49 t.cs.toArray)/\Hid (Below w.heap.size w wr)) (fun i _=>t.parts.length-(intOf i).toNat)
     case atStart=>exact ⟨0,qK _,rfl,zqh (zbb _),HA0,zqh (zqb)⟩
     case round =>
      obtain ⟨j,hj,rfl,hT,hA,hB⟩:=hrel
      by_cases hlt:j<t.parts.length
      ·exact absurd hlt (by omega)
      ·obtain rfl:j=t.parts.length:=by omega
       go_wp2_with fail
       go_ret
       exact ⟨zad (zbC HO.out hT.out).symm,hB.out⟩
    ·have dhi:=(zab hhi).1
     have dhix:=(zab hhi).2
     have HF:=zqh (zaj (k:=k) (zgu (by omega) hhi))
     clear hk
     go_wp2_with fail
     go_ret
     exact ⟨zad HF.out.symm,zqb⟩
   ·have dlo:=(zab hlo).1
    have dlox:=(zab hlo).2
    have HF:=zqh (zaj (k:=k) (zgt (by omega) hlo))
    clear hk
    go_wp2_with fail
    go_ret
    exact ⟨zad HF.out.symm,zqb⟩
  ·have hnegt:t.neg=true:=by simpa using hneg
   rw[hnegt] at c8
   have HF:=zqh (zaj (k:=k) (zeO (by omega) (by omega) hnegt))
   clear hk
   go_wp2_with fail
   go_ret
   exact ⟨zad HF.out.symm,zqb⟩
 ·have dlen:=(zab hlen).1
  have dlenx:=(zab hlen).2
  have HF:=zqh (zaj (k:=k) (zeM (by rw[hcnt];exact hlen)))
  clear hk
  go_wp2_with fail
  go_ret
  exact ⟨zad HF.out.symm,zqb⟩
end

section
open Go.RowKit
theorem zfO (k:Nat) (ih:zdw k) (t:Tr) (w:World) (h:Tr.In w (k+1) t) (hk:t.kind=3\/t.kind=4\/t.kind=5) :
  Calls Tryz.prog 47 #[.agg t.cs.toArray] w fun e w'=>e=.returned (.bool (zah (k+1) t))/\Below w.heap.size w w':=by
 rcases hk with hk | hk | hk
 all_goals
  have hlenz:t.parts.length<=9223372036854775807:=by have:=h.2.1;omega
  have hn:=h.2.1.1
  have HN:=zqh hn
  have HI:=zqh h
  have HIH:=zqh ih
  clear h ih
  have HA0:=zqh (At.new w 49 t.cs.toArray)
  obtain ⟨c0,c5,c6,c7,c8⟩:=At.tr_cell HA0.out
  obtain ⟨s1,s2,s3,s4⟩:=At.tr_set HA0.out
  have hcnt:zge t=(t.parts.length:Nat):=zmx (by omega)
  rw[hk] at c0
  go_enter Tryz.func47,Tryz.ntmps47
  by_cases hset:t.set.eqb St.nil=true
  ·have ds:∀W,(Op.equalIn 10000 46 (.agg #[.int .u64 t.set.w0,.int .u64 t.set.w1,.int .u64 t.set.w2,.int .u64 t.set.w3]) (.agg #[.int .u64 0,.int .u64 0,.int .u64 0,.int .u64 0])).run Tryz.prog W=.ok true W:=fun W=>zf7 W t.set St.nil true hset
   by_cases hneg:t.neg=false
   ·rw[hneg] at c8
    by_cases hlo:t.lo=0
    ·have dlo:=(zaq hlo).1
     have dlox:=(zaq hlo).2
     by_cases hhi:t.hi=0
     ·have dhi:=(zaq hhi).1
      have dhix:=(zaq hhi).2
      have HO:=zqh (zdg (t:=t) (by omega) (by rw[hcnt]) (.inr hset) (.inr (.inr hneg)) (.inr ⟨hlo,hhi⟩) (fun h=>absurd h (by omega)))
      clear hk
      go_wp2_with fail
      clear c0 c5 c6 c7 c8 s1 s2 s3 s4
      go_loopw [108] (fun i wr=>∃j:Nat,j<=t.parts.length/\i=.int .i64 j/\Hid (zbu k t j=true)/\Hid (At wr w.heap.size 49 t.cs.toArray)/\Hid (Below w.heap.size w wr)) (fun i _=>t.parts.length-(intOf i).toNat)
      case atStart=>exact ⟨0,qK _,rfl,zqh (zbb _),HA0,zqh (zqb)⟩
      case round =>
       obtain ⟨j,hj,rfl,hT,hA,hB⟩:=hrel
       by_cases hlt:j<t.parts.length
       ·have hcell:=(At.tr_cell hA.out).2.1
        obtain ⟨b,off,ha,hb,hr⟩:=HI.out.2.2.1 (by rw[HN.out];omega)
        have HR:=zqh (zaE (hr j hlt) hb zqn hB.out)
        have HP:=zqh (Tr.In.next (HI.out.2.2.2 j hlt) hB.out)
        clear hr hb
        rw[ha] at hcell
        clear ha
        have hjz:(0:Int)<=(j:Int):=by omega
        have hjn:(j:Int)<(t.parts.length:Int):=by omega
        obtain ⟨v,hv⟩:∃v:Bool,zah k t.parts[j]=v:=⟨_,rfl⟩
        have HV:=zqh hv
        clear hv
        go_wp2_with (refine wpList_load_mid rfl 49 _ rfl b (off+j*9) rfl t.parts[j].cs _ HR.out Tryz.underlying49 rfl (by rw[Tr.cs_length];kernel_rfl) ?_)
        refine (HIH.out t.parts[j] _ HP.out).mono ?_
        rintro e w3 ⟨rfl,hb3⟩
        rw[HV.out]
        have HA:=zqh (hA.out.step hb3 rfl)
        have HB:=zqh (zaf hB.out hb3 rfl rfl rfl rfl)
        clear hb3 hcell
        cases v
        ·go_wp2_with fail
         go_ret
         exact ⟨zad (zcj hlt HV.out).symm,HB.out⟩
        ·go_wp2_with fail
         exact ⟨⟨j+1,by omega,by go_num,zqh (zbK hlt hT.out HV.out),HA,HB⟩,by simp[intOf];omega⟩
       ·obtain rfl:j=t.parts.length:=by omega
        go_wp2_with fail
        go_ret
        exact ⟨zad (zbC HO.out hT.out).symm,hB.out⟩
     ·have dhi:=(zab hhi).1
      have dhix:=(zab hhi).2
      have HF:=zqh (zaj (k:=k) (zgu (by omega) hhi))
      clear hk
      go_wp2_with fail
      go_ret
      exact ⟨zad HF.out.symm,zqb⟩
    ·have dlo:=(zab hlo).1
     have dlox:=(zab hlo).2
     have HF:=zqh (zaj (k:=k) (zgt (by omega) hlo))
     clear hk
     go_wp2_with fail
     go_ret
     exact ⟨zad HF.out.symm,zqb⟩
   ·have hnegt:t.neg=true:=by simpa using hneg
    rw[hnegt] at c8
    have HF:=zqh (zaj (k:=k) (zeO (by omega) (by omega) hnegt))
    clear hk
    go_wp2_with fail
    go_ret
    exact ⟨zad HF.out.symm,zqb⟩
  ·have hsetf:t.set.eqb St.nil=false:=by simpa using hset
   have ds:∀W,(Op.equalIn 10000 46 (.agg #[.int .u64 t.set.w0,.int .u64 t.set.w1,.int .u64 t.set.w2,.int .u64 t.set.w3]) (.agg #[.int .u64 0,.int .u64 0,.int .u64 0,.int .u64 0])).run Tryz.prog W=.ok false W:=fun W=>zf7 W t.set St.nil false hsetf
   have HF:=zqh (zaj (k:=k) (zeN (by omega) hsetf))
   clear hk
   go_wp2_with fail
   go_ret
   exact ⟨zad HF.out.symm,zqb⟩
end
end Go.Proofs.YtdmodhnhldbpnaaGreat
