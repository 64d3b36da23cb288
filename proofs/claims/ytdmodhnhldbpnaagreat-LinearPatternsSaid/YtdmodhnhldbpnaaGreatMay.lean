/- Joined: RefFormedC, RefFormedD, RefDeep, RefFormed. -/
import Derived.Test.YtdmodhnhldbpnaaGreatProg
import Derived.Test.YtdmodhnhldbpnaaGreatMaa
import Derived.Test.YtdmodhnhldbpnaaGreatMac
import Derived.Test.YtdmodhnhldbpnaaGreatMzy
import Derived.Test.YtdmodhnhldbpnaaGreatMax
import Derived.Test.YtdmodhnhldbpnaaGreatRefSize
import Derived.Test.YtdmodhnhldbpnaaGreatAid
/- What the reference's formed answers. -/
set_option linter.unusedSimpArgs false
set_option linter.unusedVariables false
set_option maxHeartbeats 64000000
set_option maxRecDepth 100000
namespace Go.Proofs.YtdmodhnhldbpnaaGreat
section
open Go.RowKit
theorem zp4 (k:Nat) (ih:zdw k) (t:Tr) (w:World) (h:Tr.In w (k+1) t) (hk:t.kind=6) :
  Calls Tryz.prog 47 #[.agg t.cs.toArray] w fun e w'=>e=.returned (.bool (zah (k+1) t))/\Below w.heap.size w w':=by
 have hlenz:t.parts.length<=9223372036854775807:=by have:=h.2.1;omega
 have hn:=h.2.1.1
 have HN:=zqh hn
 have HI:=zqh h
 have HIH:=zqh ih
 clear h ih
 have HA0:=zqh (At.new w 49 t.cs.toArray)
 obtain ⟨c0,c5,c6,c7,c8⟩:=At.tr_cell HA0.out
 obtain ⟨s1,s2,s3,s4⟩:=At.tr_set HA0.out
 have hcnt:zge t=1:=zfy (by omega)
 rw[hk] at c0
 go_enter Tryz.func47,Tryz.ntmps47
 by_cases hlen:(t.parts.length:Int)=1
 ·have dlen:=(zaq hlen).1
  have dlenx:=(zaq hlen).2
  by_cases hset:t.set.eqb St.nil=true
  ·have ds:∀W,(Op.equalIn 10000 46 (.agg #[.int .u64 t.set.w0,.int .u64 t.set.w1,.int .u64 t.set.w2,.int .u64 t.set.w3]) (.agg #[.int .u64 0,.int .u64 0,.int .u64 0,.int .u64 0])).run Tryz.prog W=.ok true W:=fun W=>zf7 W t.set St.nil true hset
   by_cases hneg:t.neg=false
   ·rw[hneg] at c8
    by_cases hlo:t.lo=0
    ·have dlo:=(zaq hlo).1
     have dlox:=(zaq hlo).2
     by_cases hhi:t.hi=0
     ·have dhi:=(zaq hhi).1
      have dhix:=(zaq hhi).2
      have HO:=zqh (zdg (t:=t) (by omega) (by rw[hcnt];exact hlen) (.inr hset) (.inr (.inr hneg)) (.inr ⟨hlo,hhi⟩) (fun h=>absurd h (by omega)))
      clear hk
      go_wp2_with fail
      clear c0 c5 c6 c7 c8 s1 s2 s3 s4
      go_loopw [108] (fun i wr=>∃j:Nat,j<=t.parts.length/\i=.int .i64 j/\Hid (zbu k t j=true)/\Hid (At wr w.heap.size 49 t.cs.toArray)/\Hid (Below w.heap.size w wr)) (fun i _=>t.parts.length-(intOf i).toNat)
      case atStart=>exact ⟨0,qK _,rfl,zqh (zbb _),HA0,zqh (zqb)⟩
      case round =>
       obtain ⟨j,hj,rfl,hT,hA,hB⟩:=hrel
       by_cases hlt:j<t.parts.length
       ·have hcell:=(At.tr_cell hA.out).2.1
        obtain ⟨b,off,ha,hb,hr⟩:=HI.out.2.2.1 (by rw[HN.out];omega)
        have HR:=zqh (zaE (hr j hlt) hb zqn hB.out)
        have HP:=zqh (Tr.In.next (HI.out.2.2.2 j hlt) hB.out)
        clear hr hb
        rw[ha] at hcell
        clear ha
        have hjz:(0:Int)<=(j:Int):=by omega
        have hjn:(j:Int)<(t.parts.length:Int):=by omega
        obtain ⟨v,hv⟩:∃v:Bool,zah k t.parts[j]=v:=⟨_,rfl⟩
        have HV:=zqh hv
        clear hv
        go_wp2_with (refine wpList_load_mid rfl 49 _ rfl b (off+j*9) rfl t.parts[j].cs _ HR.out Tryz.underlying49 rfl (by rw[Tr.cs_length];kernel_rfl) ?_)
        refine (HIH.out t.parts[j] _ HP.out).mono ?_
        rintro e w3 ⟨rfl,hb3⟩
        rw[HV.out]
        have HA:=zqh (hA.out.step hb3 rfl)
        have HB:=zqh (zaf hB.out hb3 rfl rfl rfl rfl)
        clear hb3 hcell
        cases v
        ·go_wp2_with fail
         go_ret
         exact ⟨zad (zcj hlt HV.out).symm,HB.out⟩
        ·go_wp2_with fail
         exact ⟨⟨j+1,by omega,by go_num,zqh (zbK hlt hT.out HV.out),HA,HB⟩,by simp[intOf];omega⟩
       ·obtain rfl:j=t.parts.length:=by omega
        go_wp2_with fail
        go_ret
        exact ⟨zad (zbC HO.out hT.out).symm,hB.out⟩
     ·have dhi:=(zab hhi).1
      have dhix:=(zab hhi).2
      have HF:=zqh (zaj (k:=k) (zgu (by omega) hhi))
      clear hk
      go_wp2_with fail
      go_ret
      exact ⟨zad HF.out.symm,zqb⟩
    ·have dlo:=(zab hlo).1
     have dlox:=(zab hlo).2
     have HF:=zqh (zaj (k:=k) (zgt (by omega) hlo))
     clear hk
     go_wp2_with fail
     go_ret
     exact ⟨zad HF.out.symm,zqb⟩
   ·have hnegt:t.neg=true:=by simpa using hneg
    rw[hnegt] at c8
    have HF:=zqh (zaj (k:=k) (zeO (by omega) (by omega) hnegt))
    clear hk
    go_wp2_with fail
    go_ret
    exact ⟨zad HF.out.symm,zqb⟩
  ·have hsetf:t.set.eqb St.nil=false:=by simpa using hset
   have ds:∀W,(Op.equalIn 10000 46 (.agg #[.int .u64 t.set.w0,.int .u64 t.set.w1,.int .u64 t.set.w2,.int .u64 t.set.w3]) (.agg #[.int .u64 0,.int .u64 0,.int .u64 0,.int .u64 0])).run Tryz.prog W=.ok false W:=fun W=>zf7 W t.set St.nil false hsetf
   have HF:=zqh (zaj (k:=k) (zeN (by omega) hsetf))
   clear hk
   go_wp2_with fail
   go_ret
   exact ⟨zad HF.out.symm,zqb⟩
 ·have dlen:=(zab hlen).1
  have dlenx:=(zab hlen).2
  have HF:=zqh (zaj (k:=k) (zeM (by rw[hcnt];exact hlen)))
  clear hk
  go_wp2_with fail
  go_ret
  exact ⟨zad HF.out.symm,zqb⟩
theorem zp5 (k:Nat) (ih:zdw k) (t:Tr) (w:World) (h:Tr.In w (k+1) t) (hk:t.kind=7) :
  Calls Tryz.prog 47 #[.agg t.cs.toArray] w fun e w'=>e=.returned (.bool (zah (k+1) t))/\Below w.heap.size w w':=by
 have hlenz:t.parts.length<=9223372036854775807:=by have:=h.2.1;omega
 have hn:=h.2.1.1
 have HN:=zqh hn
 have HI:=zqh h
 have HIH:=zqh ih
 clear h ih
 have HA0:=zqh (At.new w 49 t.cs.toArray)
 obtain ⟨c0,c5,c6,c7,c8⟩:=At.tr_cell HA0.out
 obtain ⟨s1,s2,s3,s4⟩:=At.tr_set HA0.out
 have hcnt:zge t=1:=zfy (by omega)
 rw[hk] at c0
 go_enter Tryz.func47,Tryz.ntmps47
 by_cases hlen:(t.parts.length:Int)=1
 ·have dlen:=(zaq hlen).1
  have dlenx:=(zaq hlen).2
  by_cases hset:t.set.eqb St.nil=true
  ·have ds:∀W,(Op.equalIn 10000 46 (.agg #[.int .u64 t.set.w0,.int .u64 t.set.w1,.int .u64 t.set.w2,.int .u64 t.set.w3]) (.agg #[.int .u64 0,.int .u64 0,.int .u64 0,.int .u64 0])).run Tryz.prog W=.ok true W:=fun W=>zf7 W t.set St.nil true hset
   by_cases hneg:t.neg=false
   ·rw[hneg] at c8
    by_cases hlo:¬(t.lo<0)
    ·have dlo:=za0 hlo
     by_cases hlz:¬(20<t.lo)
     ·have dlz:=za0 hlz
      by_cases hhi:t.hi=-1
      ·have dhi:=(zaq hhi).1
       have dhix:=(zaq hhi).2
       have HO:=zqh (zdg (t:=t) (by omega) (by rw[hcnt];exact hlen) (.inr hset) (.inr (.inr hneg)) (.inl hk) (fun _=>by unfold zba;omega))
       clear hk
       go_wp2_with fail
       clear c0 c5 c6 c7 c8 s1 s2 s3 s4
       go_loopw [108] (fun i wr=>∃j:Nat,j<=t.parts.length/\i=.int .i64 j/\Hid (zbu k t j=true)/\Hid (At wr w.heap.size 49 t.cs.toArray)/\Hid (Below w.heap.size w wr)) (fun i _=>t.parts.length-(intOf i).toNat)
       case atStart=>exact ⟨0,qK _,rfl,zqh (zbb _),HA0,zqh (zqb)⟩
       case round =>
        obtain ⟨j,hj,rfl,hT,hA,hB⟩:=hrel
        by_cases hlt:j<t.parts.length
        ·have hcell:=(At.tr_cell hA.out).2.1
         obtain ⟨b,off,ha,hb,hr⟩:=HI.out.2.2.1 (by rw[HN.out];omega)
         have HR:=zqh (zaE (hr j hlt) hb zqn hB.out)
         have HP:=zqh (Tr.In.next (HI.out.2.2.2 j hlt) hB.out)
         clear hr hb
         rw[ha] at hcell
         clear ha
         have hjz:(0:Int)<=(j:Int):=by omega
         have hjn:(j:Int)<(t.parts.length:Int):=by omega
         obtain ⟨v,hv⟩:∃v:Bool,zah k t.parts[j]=v:=⟨_,rfl⟩
         have HV:=zqh hv
         clear hv
         go_wp2_with (refine wpList_load_mid rfl 49 _ rfl b (off+j*9) rfl t.parts[j].cs _ HR.out Tryz.underlying49 rfl (by rw[Tr.cs_length];kernel_rfl) ?_)
         refine (HIH.out t.parts[j] _ HP.out).mono ?_
         rintro e w3 ⟨rfl,hb3⟩
         rw[HV.out]
         have HA:=zqh (hA.out.step hb3 rfl)
         have HB:=zqh (zaf hB.out hb3 rfl rfl rfl rfl)
         clear hb3 hcell
         cases v
         ·go_wp2_with fail
          go_ret
          exact ⟨zad (zcj hlt HV.out).symm,HB.out⟩
         ·go_wp2_with fail
          exact ⟨⟨j+1,by omega,by go_num,zqh (zbK hlt hT.out HV.out),HA,HB⟩,by simp[intOf];omega⟩
        ·obtain rfl:j=t.parts.length:=by omega
         go_wp2_with fail
         go_ret
         exact ⟨zad (zbC HO.out hT.out).symm,hB.out⟩
      ·have dhi:=(zab hhi).1
       have dhix:=(zab hhi).2
       by_cases haq:t.hi<t.lo
       ·have dha:=za6 haq
        have HF:=zqh (zaj (k:=k) (zc5 hk (by unfold zba;omega)))
        clear hk
        go_wp2_with fail
        go_ret
        exact ⟨zad HF.out.symm,zqb⟩
       ·have dha:=za0 haq
        by_cases hbq:t.hi<1
        ·have dhb:=za6 hbq
         have HF:=zqh (zaj (k:=k) (zc5 hk (by unfold zba;omega)))
         clear hk
         go_wp2_with fail
         go_ret
         exact ⟨zad HF.out.symm,zqb⟩
        ·have dhb:=za0 hbq
         by_cases hcq:20<t.hi
         ·have dhc:=za6 hcq
          have HF:=zqh (zaj (k:=k) (zc5 hk (by unfold zba;omega)))
          clear hk
          go_wp2_with fail
          go_ret
          exact ⟨zad HF.out.symm,zqb⟩
         ·have dhc:=za0 hcq
          have HO:=zqh (zdg (t:=t) (by omega) (by rw[hcnt];exact hlen) (.inr hset) (.inr (.inr hneg)) (.inl hk) (fun _=>by unfold zba;omega))
          clear hk
          go_wp2_with fail
          clear c0 c5 c6 c7 c8 s1 s2 s3 s4
          go_loopw [108] (fun i wr=>∃j:Nat,j<=t.parts.length/\i=.int .i64 j/\Hid (zbu k t j=true)/\Hid (At wr w.heap.size 49 t.cs.toArray)/\Hid (Below w.heap.size w wr)) (fun i _=>t.parts.length-(intOf i).toNat)
          case atStart=>exact ⟨0,qK _,rfl,zqh (zbb _),HA0,zqh (zqb)⟩
          case round =>
           obtain ⟨j,hj,rfl,hT,hA,hB⟩:=hrel
           by_cases hlt:j<t.parts.length
           ·have hcell:=(At.tr_cell hA.out).2.1
            obtain ⟨b,off,ha,hb,hr⟩:=HI.out.2.2.1 (by rw[HN.out];omega)
            have HR:=zqh (zaE (hr j hlt) hb zqn hB.out)
            have HP:=zqh (Tr.In.next (HI.out.2.2.2 j hlt) hB.out)
            clear hr hb
            rw[ha] at hcell
            clear ha
            have hjz:(0:Int)<=(j:Int):=by omega
            have hjn:(j:Int)<(t.parts.length:Int):=by omega
            obtain ⟨v,hv⟩:∃v:Bool,zah k t.parts[j]=v:=⟨_,rfl⟩
            have HV:=zqh hv
            clear hv
            go_wp2_with (refine wpList_load_mid rfl 49 _ rfl b (off+j*9) rfl t.parts[j].cs _ HR.out Tryz.underlying49 rfl (by rw[Tr.cs_length];kernel_rfl) ?_)
            refine (HIH.out t.parts[j] _ HP.out).mono ?_
            rintro e w3 ⟨rfl,hb3⟩
            rw[HV.out]
            have HA:=zqh (hA.out.step hb3 rfl)
            have HB:=zqh (zaf hB.out hb3 rfl rfl rfl rfl)
            clear hb3 hcell
            cases v
            ·go_wp2_with fail
             go_ret
             exact ⟨zad (zcj hlt HV.out).symm,HB.out⟩
            ·go_wp2_with fail
             exact ⟨⟨j+1,by omega,by go_num,zqh (zbK hlt hT.out HV.out),HA,HB⟩,by simp[intOf];omega⟩
           ·obtain rfl:j=t.parts.length:=by omega
            go_wp2_with fail
            go_ret
            exact ⟨zad (zbC HO.out hT.out).symm,hB.out⟩
     ·have hlzb:20<t.lo:=by omega
      have dlz:=za6 hlzb
      have HF:=zqh (zaj (k:=k) (zc5 hk (by unfold zba;omega)))
      clear hk
      go_wp2_with fail
      go_ret
      exact ⟨zad HF.out.symm,zqb⟩
    ·have hlob:t.lo<0:=by omega
     have dlo:=za6 hlob
     have HF:=zqh (zaj (k:=k) (zc5 hk (by unfold zba;omega)))
     clear hk
     go_wp2_with fail
     go_ret
     exact ⟨zad HF.out.symm,zqb⟩
   ·have hnegt:t.neg=true:=by simpa using hneg
    rw[hnegt] at c8
    have HF:=zqh (zaj (k:=k) (zeO (by omega) (by omega) hnegt))
    clear hk
    go_wp2_with fail
    go_ret
    exact ⟨zad HF.out.symm,zqb⟩
  ·have hsetf:t.set.eqb St.nil=false:=by simpa using hset
   have ds:∀W,(Op.equalIn 10000 46 (.agg #[.int .u64 t.set.w0,.int .u64 t.set.w1,.int .u64 t.set.w2,.int .u64 t.set.w3]) (.agg #[.int .u64 0,.int .u64 0,.int .u64 0,.int .u64 0])).run Tryz.prog W=.ok false W:=fun W=>zf7 W t.set St.nil false hsetf
   have HF:=zqh (zaj (k:=k) (zeN (by omega) hsetf))
   clear hk
   go_wp2_with fail
   go_ret
   exact ⟨zad HF.out.symm,zqb⟩
 ·have dlen:=(zab hlen).1
  have dlenx:=(zab hlen).2
  have HF:=zqh (zaj (k:=k) (zeM (by rw[hcnt];exact hlen)))
  clear hk
  go_wp2_with fail
  go_ret
  exact ⟨zad HF.out.symm,zqb⟩
end

section
open Go.RowKit
theorem zja (k:Nat) (ih:zdw k) (t:Tr) (w:World) (h:Tr.In w (k+1) t) (hk:t.kind=8\/t.kind=9) :
  Calls Tryz.prog 47 #[.agg t.cs.toArray] w fun e w'=>e=.returned (.bool (zah (k+1) t))/\Below w.heap.size w w':=by
 rcases hk with hk | hk
 all_goals
  have hlenz:t.parts.length<=9223372036854775807:=by have:=h.2.1;omega
  have hn:=h.2.1.1
  have HN:=zqh hn
  have HI:=zqh h
  have HIH:=zqh ih
  clear h ih
  have HA0:=zqh (At.new w 49 t.cs.toArray)
  obtain ⟨c0,c5,c6,c7,c8⟩:=At.tr_cell HA0.out
  obtain ⟨s1,s2,s3,s4⟩:=At.tr_set HA0.out
  have hcnt:zge t=1:=zfy (by omega)
  rw[hk] at c0
  go_enter Tryz.func47,Tryz.ntmps47
  by_cases hlen:(t.parts.length:Int)=1
  ·have dlen:=(zaq hlen).1
   have dlenx:=(zaq hlen).2
   by_cases hset:t.set.eqb St.nil=true
   ·have ds:∀W,(Op.equalIn 10000 46 (.agg #[.int .u64 t.set.w0,.int .u64 t.set.w1,.int .u64 t.set.w2,.int .u64 t.set.w3]) (.agg #[.int .u64 0,.int .u64 0,.int .u64 0,.int .u64 0])).run Tryz.prog W=.ok true W:=fun W=>zf7 W t.set St.nil true hset
    by_cases hlo:t.lo=0
    ·have dlo:=(zaq hlo).1
     have dlox:=(zaq hlo).2
     by_cases hhi:t.hi=0
     ·have dhi:=(zaq hhi).1
      have dhix:=(zaq hhi).2
      have HO:=zqh (zdg (t:=t) (by omega) (by rw[hcnt];exact hlen) (.inr hset) (by first | exact .inl hk | exact .inr (.inl hk)) (.inr ⟨hlo,hhi⟩) (fun h=>absurd h (by omega)))
      clear hk
      go_wp2_with fail
      clear c0 c5 c6 c7 c8 s1 s2 s3 s4
      go_loopw [108] (fun i wr=>∃j:Nat,j<=t.parts.length/\i=.int .i64 j/\Hid (zbu k t j=true)/\Hid (At wr w.heap.size 49 t.cs.toArray)/\Hid (Below w.heap.size w wr)) (fun i _=>t.parts.length-(intOf i).toNat)
      case atStart=>exact ⟨0,qK _,rfl,zqh (zbb _),HA0,zqh (zqb)⟩
      case round =>
       obtain ⟨j,hj,rfl,hT,hA,hB⟩:=hrel
       by_cases hlt:j<t.parts.length
       ·have hcell:=(At.tr_cell hA.out).2.1
        obtain ⟨b,off,ha,hb,hr⟩:=HI.out.2.2.1 (by rw[HN.out];omega)
        have HR:=zqh (zaE (hr j hlt) hb zqn hB.out)
        have HP:=zqh (Tr.In.next (HI.out.2.2.2 j hlt) hB.out)
        clear hr hb
        rw[ha] at hcell
        clear ha
        have hjz:(0:Int)<=(j:Int):=by omega
        have hjn:(j:Int)<(t.parts.length:Int):=by omega
        obtain ⟨v,hv⟩:∃v:Bool,zah k t.parts[j]=v:=⟨_,rfl⟩
        have HV:=zqh hv
        clear hv
        go_wp2_with (refine wpList_load_mid rfl 49 _ rfl b (off+j*9) rfl t.parts[j].cs _ HR.out Tryz.underlying49 rfl (by rw[Tr.cs_length];kernel_rfl) ?_)
        refine (HIH.out t.parts[j] _ HP.out).mono ?_
        rintro e w3 ⟨rfl,hb3⟩
        rw[HV.out]
        have HA:=zqh (hA.out.step hb3 rfl)
        have HB:=zqh (zaf hB.out hb3 rfl rfl rfl rfl)
        clear hb3 hcell
        cases v
        ·go_wp2_with fail
         go_ret
         exact ⟨zad (zcj hlt HV.out).symm,HB.out⟩
        ·go_wp2_with fail
         exact ⟨⟨j+1,by omega,by go_num,zqh (zbK hlt hT.out HV.out),HA,HB⟩,by simp[intOf];omega⟩
       ·obtain rfl:j=t.parts.length:=by omega
        go_wp2_with fail
        go_ret
        exact ⟨zad (zbC HO.out hT.out).symm,hB.out⟩
     ·have dhi:=(zab hhi).1
      have dhix:=(zab hhi).2
      have HF:=zqh (zaj (k:=k) (zgu (by omega) hhi))
      clear hk
      go_wp2_with fail
      go_ret
      exact ⟨zad HF.out.symm,zqb⟩
    ·have dlo:=(zab hlo).1
     have dlox:=(zab hlo).2
     have HF:=zqh (zaj (k:=k) (zgt (by omega) hlo))
     clear hk
     go_wp2_with fail
     go_ret
     exact ⟨zad HF.out.symm,zqb⟩
   ·have hsetf:t.set.eqb St.nil=false:=by simpa using hset
    have ds:∀W,(Op.equalIn 10000 46 (.agg #[.int .u64 t.set.w0,.int .u64 t.set.w1,.int .u64 t.set.w2,.int .u64 t.set.w3]) (.agg #[.int .u64 0,.int .u64 0,.int .u64 0,.int .u64 0])).run Tryz.prog W=.ok false W:=fun W=>zf7 W t.set St.nil false hsetf
    have HF:=zqh (zaj (k:=k) (zeN (by omega) hsetf))
    clear hk
    go_wp2_with fail
    go_ret
    exact ⟨zad HF.out.symm,zqb⟩
  ·have dlen:=(zab hlen).1
   have dlenx:=(zab hlen).2
   have HF:=zqh (zaj (k:=k) (zeM (by rw[hcnt];exact hlen)))
   clear hk
   go_wp2_with fail
   go_ret
   exact ⟨zad HF.out.symm,zqb⟩
end

section
open Go.RowKit
theorem znP:∀(k:Nat) (m:Int) (t:Tr) (w:World),0<=m->m<=1000->Tr.In w k t ->
  Calls Tryz.prog 46 #[.agg t.cs.toArray,.int .i64 m] w fun e w'=>e=.returned (.int .i64 (zbj k m t))/\Below w.heap.size w w'
 | 0,_,_,_,_,_,h=>h.elim
 | k+1,m,t,w,h0,h1,h=>by
  have hlen:t.parts.length<=9223372036854775807:=by have:=h.2.1;omega
  have hn:=h.2.1.1
  have HI:=zqh h
  have HC:=zqh (At.tr_cell (At.new w 49 t.cs.toArray))
  clear h
  have hcell:=HC.out.2.1
  go_enter Tryz.func46,Tryz.ntmps46
  by_cases hm:m<1
  ·have hS:Hid (zbj (k+1) m t=1):=by show (if m<1 then 1 else 1+zgd _)=_;rw[if_pos hm]
   go_wp2_with fail
   go_ret
   exact ⟨by rw[hS.out];rfl,zqb⟩
  ·have HM:=zqh hm
   go_wp2_with fail
   go_loopw [5,13] (fun x i wr=>∃j:Nat,j<=t.parts.length/\i=.int .i64 j/\x=.int .i64 (zem k (m-1) t j)/\Hid (At wr w.heap.size 49 t.cs.toArray)/\Hid (Below w.heap.size w wr)) (fun _ i _=>t.parts.length-(intOf i).toNat)
   case atStart=>exact ⟨0,qK _,rfl,by rw[zjz],zqh (At.new _ _ _),zqh (zqb)⟩
   case round =>
    obtain ⟨j,hj,rfl,rfl,hA,hB⟩:=hrel
    clear hcell
    have hcell:=(At.tr_cell hA.out).2.1
    have hd0:=zmw k (m-1) t j
    have hd1:=zmv k (m-1) t j (by omega)
    by_cases hlt:j<t.parts.length
    ·obtain ⟨b,off,ha,hb,hr⟩:=HI.out.2.2.1 (by rw[hn];omega)
     have HR:=zqh (zaE (hr j hlt) hb zqn hB.out)
     have HP:=zqh (Tr.In.next (HI.out.2.2.2 j hlt) hB.out)
     have HD:=zqh (zjA k (m-1) t j hlt)
     have he0:=zoH k (m-1) t.parts[j]
     have he1:=zh0 k (m-1) t.parts[j] (by omega)
     obtain ⟨x,hx⟩:∃x:Int,zem k (m-1) t j=x:=⟨_,rfl⟩
     obtain ⟨y,hy⟩:∃y:Int,zbj k (m-1) t.parts[j]=y:=⟨_,rfl⟩
     rw[hx] at hd0 hd1 HD ⊢
     rw[hy] at he0 he1 HD
     have HY:=zqh hy
     clear hx hy hr hb
     rw[ha] at hcell
     clear ha
     have hjz:(0:Int)<=(j:Int):=by omega
     have hjn:(j:Int)<(t.parts.length:Int):=by omega
     go_wp2_with (refine wpList_load_mid rfl 49 _ rfl b (off+j*9) rfl t.parts[j].cs _ HR.out Tryz.underlying49 rfl (by rw[Tr.cs_length];kernel_rfl) ?_)
     refine (znP k (m-1) t.parts[j] _ (by omega) (by omega) HP.out).mono ?_
     rintro e w3 ⟨rfl,hb3⟩
     rw[HY.out]
     have HA:=zqh (hA.out.step hb3 rfl)
     have HB:=zqh (zaf hB.out hb3 rfl rfl rfl rfl)
     clear hb3 hcell
     by_cases hg:x<y
     ·have hd:decide (x<y)=true:=by rw[decide_eq_true_iff];exact hg
      go_wp2_with fail
      exact ⟨⟨j+1,by omega,by go_num,by rw[HD.out,Int.max_eq_right (by omega)],HA,HB⟩,by simp[intOf];omega⟩
     ·have hd:decide (x<y)=false:=by rw[kQ];exact hg
      have hg':y<=x:=by omega
      go_wp2_with fail
      exact ⟨⟨j+1,by omega,by go_num,by rw[HD.out,Int.max_eq_left hg'],HA,HB⟩,by simp[intOf];omega⟩
    ·obtain rfl:j=t.parts.length:=by omega
     have hS:=zlo k m t (by have:=HM.out;omega)
     go_wp2_with fail
     go_ret
     exact ⟨rfl,hB.out⟩
end

section
open Go.RowKit
theorem zl7 (k:Nat) (t:Tr) (w:World) (hk:t.kind<0\/11<t.kind) :
  Calls Tryz.prog 47 #[.agg t.cs.toArray] w fun e w'=>e=.returned (.bool (zah (k+1) t))/\Below w.heap.size w w':=by
 have HF:=zqh (zaj (k:=k) (zlp hk))
 have HA0:=zqh (At.new w 49 t.cs.toArray)
 obtain ⟨c0,c5,c6,c7,c8⟩:=At.tr_cell HA0.out
 have k3:=(zab (show ¬t.kind=3 by omega)).1
 have k4:=(zab (show ¬t.kind=4 by omega)).1
 have k5:=(zab (show ¬t.kind=5 by omega)).1
 have k6:=(zab (show ¬t.kind=6 by omega)).1
 have k7:=(zab (show ¬t.kind=7 by omega)).1
 have k8:=(zab (show ¬t.kind=8 by omega)).1
 have k9:=(zab (show ¬t.kind=9 by omega)).1
 rcases hk with hk | hk
 ·have kl:=za6 hk
  clear hk
  go_enter Tryz.func47,Tryz.ntmps47
  go_wp2_with fail
  go_ret
  exact ⟨zad HF.out.symm,zqb⟩
 ·have kl:=za0 (show ¬t.kind<0 by omega)
  have kh:=za6 hk
  clear hk
  go_enter Tryz.func47,Tryz.ntmps47
  go_wp2_with fail
  go_ret
  exact ⟨zad HF.out.symm,zqb⟩
theorem zjb:∀k,zdw k
 | 0=>fun _ _ h=>h.elim
 | k+1=>fun t w h=>by
  have ih:=zjb k
  by_cases h0:t.kind<0\/11<t.kind
  ·exact zl7 k t w h0
  by_cases h2:t.kind=2
  ·exact zp3 k ih t w h h2
  by_cases h3:t.kind=3
  ·exact zfO k ih t w h (by omega)
  by_cases h4:t.kind=4
  ·exact zfO k ih t w h (by omega)
  by_cases h5:t.kind=5
  ·exact zfO k ih t w h (by omega)
  by_cases h6:t.kind=6
  ·exact zp4 k ih t w h h6
  by_cases h7:t.kind=7
  ·exact zp5 k ih t w h h7
  by_cases h8:t.kind=8
  ·exact zja k ih t w h (by omega)
  by_cases h9:t.kind=9
  ·exact zja k ih t w h (by omega)
  exact zp2 k ih t w h (by omega)
def zaH (k:Nat) (t:Tr):Bool:=decide (zbj k 40 t<41)&&(zah k t&&decide (zam k t<1001))
theorem zgV (k:Nat) (t:Tr) (w:World) (h:Tr.In w k t) :
  Calls Tryz.prog 16 #[.agg t.cs.toArray] w fun e w'=>e=.returned (.bool (zaH k t))/\Below w.heap.size w w':=by
 have HI:=zqh h
 clear h
 have hA:At (w.alloc (Obj.cells t.cs.toArray 49)) w.heap.size 49 t.cs.toArray:=At.new _ _ _
 have hB:Below w.heap.size w (w.alloc (Obj.cells t.cs.toArray 49)):=zqb
 obtain ⟨d,hd⟩:∃d:Int,zbj k 40 t=d:=⟨_,rfl⟩
 obtain ⟨f,hf⟩:∃f:Bool,zah k t=f:=⟨_,rfl⟩
 obtain ⟨s,hs⟩:∃s:Int,zam k t=s:=⟨_,rfl⟩
 have HD:=zqh hd
 have HF:=zqh hf
 have HS:=zqh hs
 have HR:Hid (zaH k t=(decide (d<41)&&(f&&decide (s<1001)))):=by unfold zaH;rw[hd,hf,hs];exact rfl
 clear hd hf hs
 go_enter Tryz.func16,Tryz.ntmps16
 go_wp2_with (first | (refine jU rfl 49 _ rfl w.heap.size rfl 49 t.cs.toArray (0,0) _ hA Tryz.underlying49 rfl (by kernel_rfl) ?_) | fail)
 refine (znP k 40 t _ (by omega) (by omega) (HI.out.next hB)).mono ?_
 rintro e w1 ⟨rfl,hb1⟩
 rw[HD.out]
 have hA:=hA.step hb1 rfl
 have hB:=zaf hB hb1 rfl rfl rfl rfl
 clear hb1
 by_cases h1:d<41
 ·have d1:=za6 h1
  go_wp2_with (first | (refine zaa (by rfl) 49 _ rfl w.heap.size rfl 49 t.cs.toArray (0,0) _ hA Tryz.underlying49 rfl (by kernel_rfl) ?_) | fail)
  refine (zjb k t _ (HI.out.next hB)).mono ?_
  rintro e w2 ⟨rfl,hb2⟩
  rw[HF.out]
  have hA:=hA.step hb2 rfl
  have hB:=zaf hB hb2 rfl rfl rfl rfl
  clear hb2
  cases f
  ·go_wp2_with fail
   go_ret
   exact ⟨zad (by rw[HR.out];simp),hB⟩
  ·go_wp2_with (first | (refine zaa (by rfl) 49 _ rfl w.heap.size rfl 49 t.cs.toArray (0,0) _ hA Tryz.underlying49 rfl (by kernel_rfl) ?_) | fail)
   refine (znQ k t _ (HI.out.next hB)).mono ?_
   rintro e w3 ⟨rfl,hb3⟩
   rw[HS.out]
   have hB:=zaf hB hb3 rfl rfl rfl rfl
   clear hb3
   go_wp2_with fail
   go_ret
   exact ⟨zad (by rw[HR.out];simp[h1]),hB⟩
 ·have d1:=za0 h1
  have HR2:Hid (zaH k t=false):=by rw[HR.out,d1,yC];exact rfl
  go_wp2_with fail
  go_ret
  exact ⟨zad HR2.out.symm,hB⟩
end
end Go.Proofs.YtdmodhnhldbpnaaGreat
