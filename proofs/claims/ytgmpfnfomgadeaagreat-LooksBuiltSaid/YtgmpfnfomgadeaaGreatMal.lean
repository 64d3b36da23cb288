/- Joined: RefFormedC, RefFormedD, RefDeep. -/
import Derived.Test.YtgmpfnfomgadeaaGreatProg
import Derived.Test.YtgmpfnfomgadeaaGreatMaa
import Derived.Test.YtgmpfnfomgadeaaGreatMad
import Derived.Test.YtgmpfnfomgadeaaGreatMah
import Derived.Test.YtgmpfnfomgadeaaGreatMab
import Derived.Test.YtgmpfnfomgadeaaGreatMak
/- What the reference's formed answers. -/
set_option linter.unusedSimpArgs false
set_option linter.unusedVariables false
set_option maxHeartbeats 8000000
set_option maxRecDepth 100000
namespace Go.Proofs.YtgmpfnfomgadeaaGreat
open Go.RowKit
theorem formed_6 (k:Nat) (ih:FormedAt k) (t:Tr) (w:World) (h:Tr.In w (k+1) t) (hk:t.kind=6) :
    Calls Tryz.prog 19 #[.agg t.cs.toArray] w fun e w'=>e=.returned (.bool (formedS (k+1) t))∧Below w.heap.size w w':=by
  have hlenz:t.parts.length≤9223372036854775807:=by have:=h.2.1;omega
  have hn:=h.2.1.1
  have HN:=Lib.hid hn
  have HI:=Lib.hid h
  have HIH:=Lib.hid ih
  clear h ih
  have HA0:=Lib.hid (At.new w 27 t.cs.toArray)
  obtain ⟨c0,c5,c6,c7,c8⟩:=At.tr_cell HA0.out
  obtain ⟨s1,s2,s3,s4⟩:=At.tr_set HA0.out
  have hcnt:cntF t=1:=cnt_one (by omega)
  rw[hk] at c0
  go_enter Tryz.func19,Tryz.ntmps19
  by_cases hlen:(t.parts.length:Int)=1
  · have dlen:=(int_eq hlen).1
    have dlenx:=(int_eq hlen).2
    by_cases hset:t.set.eqb St.nil=true
    · have ds:∀W,(Op.equalIn 10000 24 (.agg #[.int .u64 t.set.w0,.int .u64 t.set.w1,.int .u64 t.set.w2,.int .u64 t.set.w3]) (.agg #[.int .u64 0,.int .u64 0,.int .u64 0,.int .u64 0])).run Tryz.prog W=.ok true W:=fun W=>setEq W t.set St.nil true hset
      by_cases hneg:t.neg=false
      · rw[hneg] at c8
        by_cases hlo:t.lo=0
        · have dlo:=(int_eq hlo).1
          have dlox:=(int_eq hlo).2
          by_cases hhi:t.hi=0
          · have dhi:=(int_eq hhi).1
            have dhix:=(int_eq hhi).2
            have HO:=Lib.hid (ownF_yes (t:=t) (by omega) (by rw[hcnt];exact hlen) (.inr hset) (.inr (.inr hneg)) (.inr ⟨hlo,hhi⟩) (fun h=>absurd h (by omega)))
            clear hk
            go_wp2_with fail
            clear c0 c5 c6 c7 c8 s1 s2 s3 s4
            go_loopw [108] (fun i wr=>∃j:Nat,j≤t.parts.length∧i=.int .i64 j∧Hid (formedTo k t j=true)∧Hid (At wr w.heap.size 27 t.cs.toArray)∧Hid (Below w.heap.size w wr)) (fun i _=>t.parts.length-(intOf i).toNat)
            case atStart=>exact ⟨0,Nat.zero_le _,rfl,Lib.hid (formedTo_zero _),HA0,Lib.hid ((Below.refl _ _).alloc (Nat.le_refl _) _)⟩
            case round =>
              obtain ⟨j,hj,rfl,hT,hA,hB⟩:=hrel
              by_cases hlt:j<t.parts.length
              · have hcell:=(At.tr_cell hA.out).2.1
                obtain ⟨b,off,ha,hb,hr⟩:=HI.out.2.2.1 (by rw[HN.out];omega)
                have HR:=Lib.hid (range_below (hr j hlt) hb (Nat.le_refl _) hB.out)
                have HP:=Lib.hid (Tr.In.next (HI.out.2.2.2 j hlt) hB.out)
                clear hr hb
                rw[ha] at hcell
                clear ha
                have hjz:(0:Int)≤(j:Int):=by omega
                have hjn:(j:Int)<(t.parts.length:Int):=by omega
                obtain ⟨v,hv⟩:∃v:Bool,formedS k t.parts[j]=v:=⟨_,rfl⟩
                have HV:=Lib.hid hv
                clear hv
                go_wp2_with (refine wpList_load_mid rfl 27 _ rfl b (off+j*9) rfl t.parts[j].cs _ HR.out Tryz.underlying27 rfl (by rw[Tr.cs_length];kernel_rfl) ?_)
                refine (HIH.out t.parts[j] _ HP.out).mono ?_
                rintro e w3 ⟨rfl,hb3⟩
                rw[HV.out]
                have HA:=Lib.hid (hA.out.step hb3 rfl)
                have HB:=Lib.hid (below_step hB.out hb3 rfl rfl rfl rfl)
                clear hb3 hcell
                cases v
                · go_wp2_with fail
                  go_ret
                  exact ⟨ret_bool (formedS_not hlt HV.out).symm,HB.out⟩
                · go_wp2_with fail
                  exact ⟨⟨j+1,by omega,by go_num,Lib.hid (formedTo_succ hlt hT.out HV.out),HA,HB⟩,by simp[intOf];omega⟩
              · obtain rfl:j=t.parts.length:=by omega
                go_wp2_with fail
                go_ret
                exact ⟨ret_bool (formedS_yes HO.out hT.out).symm,hB.out⟩
          · have dhi:=(int_ne hhi).1
            have dhix:=(int_ne hhi).2
            have HF:=Lib.hid (formedS_own (k:=k) (ownF_hi (by omega) hhi))
            clear hk
            go_wp2_with fail
            go_ret
            exact ⟨ret_bool HF.out.symm,(Below.refl _ _).alloc (Nat.le_refl _) _⟩
        · have dlo:=(int_ne hlo).1
          have dlox:=(int_ne hlo).2
          have HF:=Lib.hid (formedS_own (k:=k) (ownF_lo (by omega) hlo))
          clear hk
          go_wp2_with fail
          go_ret
          exact ⟨ret_bool HF.out.symm,(Below.refl _ _).alloc (Nat.le_refl _) _⟩
      · have hnegt:t.neg=true:=by simpa using hneg
        rw[hnegt] at c8
        have HF:=Lib.hid (formedS_own (k:=k) (ownF_neg (by omega) (by omega) hnegt))
        clear hk
        go_wp2_with fail
        go_ret
        exact ⟨ret_bool HF.out.symm,(Below.refl _ _).alloc (Nat.le_refl _) _⟩
    · have hsetf:t.set.eqb St.nil=false:=by simpa using hset
      have ds:∀W,(Op.equalIn 10000 24 (.agg #[.int .u64 t.set.w0,.int .u64 t.set.w1,.int .u64 t.set.w2,.int .u64 t.set.w3]) (.agg #[.int .u64 0,.int .u64 0,.int .u64 0,.int .u64 0])).run Tryz.prog W=.ok false W:=fun W=>setEq W t.set St.nil false hsetf
      have HF:=Lib.hid (formedS_own (k:=k) (ownF_set (by omega) hsetf))
      clear hk
      go_wp2_with fail
      go_ret
      exact ⟨ret_bool HF.out.symm,(Below.refl _ _).alloc (Nat.le_refl _) _⟩
  · have dlen:=(int_ne hlen).1
    have dlenx:=(int_ne hlen).2
    have HF:=Lib.hid (formedS_own (k:=k) (ownF_len (by rw[hcnt];exact hlen)))
    clear hk
    go_wp2_with fail
    go_ret
    exact ⟨ret_bool HF.out.symm,(Below.refl _ _).alloc (Nat.le_refl _) _⟩
theorem formed_7 (k:Nat) (ih:FormedAt k) (t:Tr) (w:World) (h:Tr.In w (k+1) t) (hk:t.kind=7) :
    Calls Tryz.prog 19 #[.agg t.cs.toArray] w fun e w'=>e=.returned (.bool (formedS (k+1) t))∧Below w.heap.size w w':=by
  have hlenz:t.parts.length≤9223372036854775807:=by have:=h.2.1;omega
  have hn:=h.2.1.1
  have HN:=Lib.hid hn
  have HI:=Lib.hid h
  have HIH:=Lib.hid ih
  clear h ih
  have HA0:=Lib.hid (At.new w 27 t.cs.toArray)
  obtain ⟨c0,c5,c6,c7,c8⟩:=At.tr_cell HA0.out
  obtain ⟨s1,s2,s3,s4⟩:=At.tr_set HA0.out
  have hcnt:cntF t=1:=cnt_one (by omega)
  rw[hk] at c0
  go_enter Tryz.func19,Tryz.ntmps19
  by_cases hlen:(t.parts.length:Int)=1
  · have dlen:=(int_eq hlen).1
    have dlenx:=(int_eq hlen).2
    by_cases hset:t.set.eqb St.nil=true
    · have ds:∀W,(Op.equalIn 10000 24 (.agg #[.int .u64 t.set.w0,.int .u64 t.set.w1,.int .u64 t.set.w2,.int .u64 t.set.w3]) (.agg #[.int .u64 0,.int .u64 0,.int .u64 0,.int .u64 0])).run Tryz.prog W=.ok true W:=fun W=>setEq W t.set St.nil true hset
      by_cases hneg:t.neg=false
      · rw[hneg] at c8
        by_cases hlo:¬(t.lo<0)
        · have dlo:=dec_f hlo
          by_cases hlz:¬(20<t.lo)
          · have dlz:=dec_f hlz
            by_cases hhi:t.hi=-1
            · have dhi:=(int_eq hhi).1
              have dhix:=(int_eq hhi).2
              have HO:=Lib.hid (ownF_yes (t:=t) (by omega) (by rw[hcnt];exact hlen) (.inr hset) (.inr (.inr hneg)) (.inl hk) (fun _=>by unfold timesF;omega))
              clear hk
              go_wp2_with fail
              clear c0 c5 c6 c7 c8 s1 s2 s3 s4
              go_loopw [108] (fun i wr=>∃j:Nat,j≤t.parts.length∧i=.int .i64 j∧Hid (formedTo k t j=true)∧Hid (At wr w.heap.size 27 t.cs.toArray)∧Hid (Below w.heap.size w wr)) (fun i _=>t.parts.length-(intOf i).toNat)
              case atStart=>exact ⟨0,Nat.zero_le _,rfl,Lib.hid (formedTo_zero _),HA0,Lib.hid ((Below.refl _ _).alloc (Nat.le_refl _) _)⟩
              case round =>
                obtain ⟨j,hj,rfl,hT,hA,hB⟩:=hrel
                by_cases hlt:j<t.parts.length
                · have hcell:=(At.tr_cell hA.out).2.1
                  obtain ⟨b,off,ha,hb,hr⟩:=HI.out.2.2.1 (by rw[HN.out];omega)
                  have HR:=Lib.hid (range_below (hr j hlt) hb (Nat.le_refl _) hB.out)
                  have HP:=Lib.hid (Tr.In.next (HI.out.2.2.2 j hlt) hB.out)
                  clear hr hb
                  rw[ha] at hcell
                  clear ha
                  have hjz:(0:Int)≤(j:Int):=by omega
                  have hjn:(j:Int)<(t.parts.length:Int):=by omega
                  obtain ⟨v,hv⟩:∃v:Bool,formedS k t.parts[j]=v:=⟨_,rfl⟩
                  have HV:=Lib.hid hv
                  clear hv
                  go_wp2_with (refine wpList_load_mid rfl 27 _ rfl b (off+j*9) rfl t.parts[j].cs _ HR.out Tryz.underlying27 rfl (by rw[Tr.cs_length];kernel_rfl) ?_)
                  refine (HIH.out t.parts[j] _ HP.out).mono ?_
                  rintro e w3 ⟨rfl,hb3⟩
                  rw[HV.out]
                  have HA:=Lib.hid (hA.out.step hb3 rfl)
                  have HB:=Lib.hid (below_step hB.out hb3 rfl rfl rfl rfl)
                  clear hb3 hcell
                  cases v
                  · go_wp2_with fail
                    go_ret
                    exact ⟨ret_bool (formedS_not hlt HV.out).symm,HB.out⟩
                  · go_wp2_with fail
                    exact ⟨⟨j+1,by omega,by go_num,Lib.hid (formedTo_succ hlt hT.out HV.out),HA,HB⟩,by simp[intOf];omega⟩
                · obtain rfl:j=t.parts.length:=by omega
                  go_wp2_with fail
                  go_ret
                  exact ⟨ret_bool (formedS_yes HO.out hT.out).symm,hB.out⟩
            · have dhi:=(int_ne hhi).1
              have dhix:=(int_ne hhi).2
              by_cases haq:t.hi<t.lo
              · have dha:=dec_t haq
                have HF:=Lib.hid (formedS_own (k:=k) (ownF_times hk (by unfold timesF;omega)))
                clear hk
                go_wp2_with fail
                go_ret
                exact ⟨ret_bool HF.out.symm,(Below.refl _ _).alloc (Nat.le_refl _) _⟩
              · have dha:=dec_f haq
                by_cases hbq:t.hi<1
                · have dhb:=dec_t hbq
                  have HF:=Lib.hid (formedS_own (k:=k) (ownF_times hk (by unfold timesF;omega)))
                  clear hk
                  go_wp2_with fail
                  go_ret
                  exact ⟨ret_bool HF.out.symm,(Below.refl _ _).alloc (Nat.le_refl _) _⟩
                · have dhb:=dec_f hbq
                  by_cases hcq:20<t.hi
                  · have dhc:=dec_t hcq
                    have HF:=Lib.hid (formedS_own (k:=k) (ownF_times hk (by unfold timesF;omega)))
                    clear hk
                    go_wp2_with fail
                    go_ret
                    exact ⟨ret_bool HF.out.symm,(Below.refl _ _).alloc (Nat.le_refl _) _⟩
                  · have dhc:=dec_f hcq
                    have HO:=Lib.hid (ownF_yes (t:=t) (by omega) (by rw[hcnt];exact hlen) (.inr hset) (.inr (.inr hneg)) (.inl hk) (fun _=>by unfold timesF;omega))
                    clear hk
                    go_wp2_with fail
                    clear c0 c5 c6 c7 c8 s1 s2 s3 s4
                    go_loopw [108] (fun i wr=>∃j:Nat,j≤t.parts.length∧i=.int .i64 j∧Hid (formedTo k t j=true)∧Hid (At wr w.heap.size 27 t.cs.toArray)∧Hid (Below w.heap.size w wr)) (fun i _=>t.parts.length-(intOf i).toNat)
                    case atStart=>exact ⟨0,Nat.zero_le _,rfl,Lib.hid (formedTo_zero _),HA0,Lib.hid ((Below.refl _ _).alloc (Nat.le_refl _) _)⟩
                    case round =>
                      obtain ⟨j,hj,rfl,hT,hA,hB⟩:=hrel
                      by_cases hlt:j<t.parts.length
                      · have hcell:=(At.tr_cell hA.out).2.1
                        obtain ⟨b,off,ha,hb,hr⟩:=HI.out.2.2.1 (by rw[HN.out];omega)
                        have HR:=Lib.hid (range_below (hr j hlt) hb (Nat.le_refl _) hB.out)
                        have HP:=Lib.hid (Tr.In.next (HI.out.2.2.2 j hlt) hB.out)
                        clear hr hb
                        rw[ha] at hcell
                        clear ha
                        have hjz:(0:Int)≤(j:Int):=by omega
                        have hjn:(j:Int)<(t.parts.length:Int):=by omega
                        obtain ⟨v,hv⟩:∃v:Bool,formedS k t.parts[j]=v:=⟨_,rfl⟩
                        have HV:=Lib.hid hv
                        clear hv
                        go_wp2_with (refine wpList_load_mid rfl 27 _ rfl b (off+j*9) rfl t.parts[j].cs _ HR.out Tryz.underlying27 rfl (by rw[Tr.cs_length];kernel_rfl) ?_)
                        refine (HIH.out t.parts[j] _ HP.out).mono ?_
                        rintro e w3 ⟨rfl,hb3⟩
                        rw[HV.out]
                        have HA:=Lib.hid (hA.out.step hb3 rfl)
                        have HB:=Lib.hid (below_step hB.out hb3 rfl rfl rfl rfl)
                        clear hb3 hcell
                        cases v
                        · go_wp2_with fail
                          go_ret
                          exact ⟨ret_bool (formedS_not hlt HV.out).symm,HB.out⟩
                        · go_wp2_with fail
                          exact ⟨⟨j+1,by omega,by go_num,Lib.hid (formedTo_succ hlt hT.out HV.out),HA,HB⟩,by simp[intOf];omega⟩
                      · obtain rfl:j=t.parts.length:=by omega
                        go_wp2_with fail
                        go_ret
                        exact ⟨ret_bool (formedS_yes HO.out hT.out).symm,hB.out⟩
          · have hlzb:20<t.lo:=by omega
            have dlz:=dec_t hlzb
            have HF:=Lib.hid (formedS_own (k:=k) (ownF_times hk (by unfold timesF;omega)))
            clear hk
            go_wp2_with fail
            go_ret
            exact ⟨ret_bool HF.out.symm,(Below.refl _ _).alloc (Nat.le_refl _) _⟩
        · have hlob:t.lo<0:=by omega
          have dlo:=dec_t hlob
          have HF:=Lib.hid (formedS_own (k:=k) (ownF_times hk (by unfold timesF;omega)))
          clear hk
          go_wp2_with fail
          go_ret
          exact ⟨ret_bool HF.out.symm,(Below.refl _ _).alloc (Nat.le_refl _) _⟩
      · have hnegt:t.neg=true:=by simpa using hneg
        rw[hnegt] at c8
        have HF:=Lib.hid (formedS_own (k:=k) (ownF_neg (by omega) (by omega) hnegt))
        clear hk
        go_wp2_with fail
        go_ret
        exact ⟨ret_bool HF.out.symm,(Below.refl _ _).alloc (Nat.le_refl _) _⟩
    · have hsetf:t.set.eqb St.nil=false:=by simpa using hset
      have ds:∀W,(Op.equalIn 10000 24 (.agg #[.int .u64 t.set.w0,.int .u64 t.set.w1,.int .u64 t.set.w2,.int .u64 t.set.w3]) (.agg #[.int .u64 0,.int .u64 0,.int .u64 0,.int .u64 0])).run Tryz.prog W=.ok false W:=fun W=>setEq W t.set St.nil false hsetf
      have HF:=Lib.hid (formedS_own (k:=k) (ownF_set (by omega) hsetf))
      clear hk
      go_wp2_with fail
      go_ret
      exact ⟨ret_bool HF.out.symm,(Below.refl _ _).alloc (Nat.le_refl _) _⟩
  · have dlen:=(int_ne hlen).1
    have dlenx:=(int_ne hlen).2
    have HF:=Lib.hid (formedS_own (k:=k) (ownF_len (by rw[hcnt];exact hlen)))
    clear hk
    go_wp2_with fail
    go_ret
    exact ⟨ret_bool HF.out.symm,(Below.refl _ _).alloc (Nat.le_refl _) _⟩
end Go.Proofs.YtgmpfnfomgadeaaGreat

/- What the reference's formed answers. -/
set_option linter.unusedSimpArgs false
set_option linter.unusedVariables false
set_option maxHeartbeats 8000000
set_option maxRecDepth 100000
namespace Go.Proofs.YtgmpfnfomgadeaaGreat
open Go.RowKit
theorem formed_8 (k:Nat) (ih:FormedAt k) (t:Tr) (w:World) (h:Tr.In w (k+1) t) (hk:t.kind=8) :
    Calls Tryz.prog 19 #[.agg t.cs.toArray] w fun e w'=>e=.returned (.bool (formedS (k+1) t))∧Below w.heap.size w w':=by
  have hlenz:t.parts.length≤9223372036854775807:=by have:=h.2.1;omega
  have hn:=h.2.1.1
  have HN:=Lib.hid hn
  have HI:=Lib.hid h
  have HIH:=Lib.hid ih
  clear h ih
  have HA0:=Lib.hid (At.new w 27 t.cs.toArray)
  obtain ⟨c0,c5,c6,c7,c8⟩:=At.tr_cell HA0.out
  obtain ⟨s1,s2,s3,s4⟩:=At.tr_set HA0.out
  have hcnt:cntF t=1:=cnt_one (by omega)
  rw[hk] at c0
  go_enter Tryz.func19,Tryz.ntmps19
  by_cases hlen:(t.parts.length:Int)=1
  · have dlen:=(int_eq hlen).1
    have dlenx:=(int_eq hlen).2
    by_cases hset:t.set.eqb St.nil=true
    · have ds:∀W,(Op.equalIn 10000 24 (.agg #[.int .u64 t.set.w0,.int .u64 t.set.w1,.int .u64 t.set.w2,.int .u64 t.set.w3]) (.agg #[.int .u64 0,.int .u64 0,.int .u64 0,.int .u64 0])).run Tryz.prog W=.ok true W:=fun W=>setEq W t.set St.nil true hset
      by_cases hlo:t.lo=0
      · have dlo:=(int_eq hlo).1
        have dlox:=(int_eq hlo).2
        by_cases hhi:t.hi=0
        · have dhi:=(int_eq hhi).1
          have dhix:=(int_eq hhi).2
          have HO:=Lib.hid (ownF_yes (t:=t) (by omega) (by rw[hcnt];exact hlen) (.inr hset) (.inl hk) (.inr ⟨hlo,hhi⟩) (fun h=>absurd h (by omega)))
          clear hk
          go_wp2_with fail
          clear c0 c5 c6 c7 c8 s1 s2 s3 s4
          go_loopw [108] (fun i wr=>∃j:Nat,j≤t.parts.length∧i=.int .i64 j∧Hid (formedTo k t j=true)∧Hid (At wr w.heap.size 27 t.cs.toArray)∧Hid (Below w.heap.size w wr)) (fun i _=>t.parts.length-(intOf i).toNat)
          case atStart=>exact ⟨0,Nat.zero_le _,rfl,Lib.hid (formedTo_zero _),HA0,Lib.hid ((Below.refl _ _).alloc (Nat.le_refl _) _)⟩
          case round =>
            obtain ⟨j,hj,rfl,hT,hA,hB⟩:=hrel
            by_cases hlt:j<t.parts.length
            · have hcell:=(At.tr_cell hA.out).2.1
              obtain ⟨b,off,ha,hb,hr⟩:=HI.out.2.2.1 (by rw[HN.out];omega)
              have HR:=Lib.hid (range_below (hr j hlt) hb (Nat.le_refl _) hB.out)
              have HP:=Lib.hid (Tr.In.next (HI.out.2.2.2 j hlt) hB.out)
              clear hr hb
              rw[ha] at hcell
              clear ha
              have hjz:(0:Int)≤(j:Int):=by omega
              have hjn:(j:Int)<(t.parts.length:Int):=by omega
              obtain ⟨v,hv⟩:∃v:Bool,formedS k t.parts[j]=v:=⟨_,rfl⟩
              have HV:=Lib.hid hv
              clear hv
              go_wp2_with (refine wpList_load_mid rfl 27 _ rfl b (off+j*9) rfl t.parts[j].cs _ HR.out Tryz.underlying27 rfl (by rw[Tr.cs_length];kernel_rfl) ?_)
              refine (HIH.out t.parts[j] _ HP.out).mono ?_
              rintro e w3 ⟨rfl,hb3⟩
              rw[HV.out]
              have HA:=Lib.hid (hA.out.step hb3 rfl)
              have HB:=Lib.hid (below_step hB.out hb3 rfl rfl rfl rfl)
              clear hb3 hcell
              cases v
              · go_wp2_with fail
                go_ret
                exact ⟨ret_bool (formedS_not hlt HV.out).symm,HB.out⟩
              · go_wp2_with fail
                exact ⟨⟨j+1,by omega,by go_num,Lib.hid (formedTo_succ hlt hT.out HV.out),HA,HB⟩,by simp[intOf];omega⟩
            · obtain rfl:j=t.parts.length:=by omega
              go_wp2_with fail
              go_ret
              exact ⟨ret_bool (formedS_yes HO.out hT.out).symm,hB.out⟩
        · have dhi:=(int_ne hhi).1
          have dhix:=(int_ne hhi).2
          have HF:=Lib.hid (formedS_own (k:=k) (ownF_hi (by omega) hhi))
          clear hk
          go_wp2_with fail
          go_ret
          exact ⟨ret_bool HF.out.symm,(Below.refl _ _).alloc (Nat.le_refl _) _⟩
      · have dlo:=(int_ne hlo).1
        have dlox:=(int_ne hlo).2
        have HF:=Lib.hid (formedS_own (k:=k) (ownF_lo (by omega) hlo))
        clear hk
        go_wp2_with fail
        go_ret
        exact ⟨ret_bool HF.out.symm,(Below.refl _ _).alloc (Nat.le_refl _) _⟩
    · have hsetf:t.set.eqb St.nil=false:=by simpa using hset
      have ds:∀W,(Op.equalIn 10000 24 (.agg #[.int .u64 t.set.w0,.int .u64 t.set.w1,.int .u64 t.set.w2,.int .u64 t.set.w3]) (.agg #[.int .u64 0,.int .u64 0,.int .u64 0,.int .u64 0])).run Tryz.prog W=.ok false W:=fun W=>setEq W t.set St.nil false hsetf
      have HF:=Lib.hid (formedS_own (k:=k) (ownF_set (by omega) hsetf))
      clear hk
      go_wp2_with fail
      go_ret
      exact ⟨ret_bool HF.out.symm,(Below.refl _ _).alloc (Nat.le_refl _) _⟩
  · have dlen:=(int_ne hlen).1
    have dlenx:=(int_ne hlen).2
    have HF:=Lib.hid (formedS_own (k:=k) (ownF_len (by rw[hcnt];exact hlen)))
    clear hk
    go_wp2_with fail
    go_ret
    exact ⟨ret_bool HF.out.symm,(Below.refl _ _).alloc (Nat.le_refl _) _⟩
theorem formed_9 (k:Nat) (ih:FormedAt k) (t:Tr) (w:World) (h:Tr.In w (k+1) t) (hk:t.kind=9) :
    Calls Tryz.prog 19 #[.agg t.cs.toArray] w fun e w'=>e=.returned (.bool (formedS (k+1) t))∧Below w.heap.size w w':=by
  have hlenz:t.parts.length≤9223372036854775807:=by have:=h.2.1;omega
  have hn:=h.2.1.1
  have HN:=Lib.hid hn
  have HI:=Lib.hid h
  have HIH:=Lib.hid ih
  clear h ih
  have HA0:=Lib.hid (At.new w 27 t.cs.toArray)
  obtain ⟨c0,c5,c6,c7,c8⟩:=At.tr_cell HA0.out
  obtain ⟨s1,s2,s3,s4⟩:=At.tr_set HA0.out
  have hcnt:cntF t=1:=cnt_one (by omega)
  rw[hk] at c0
  go_enter Tryz.func19,Tryz.ntmps19
  by_cases hlen:(t.parts.length:Int)=1
  · have dlen:=(int_eq hlen).1
    have dlenx:=(int_eq hlen).2
    by_cases hset:t.set.eqb St.nil=true
    · have ds:∀W,(Op.equalIn 10000 24 (.agg #[.int .u64 t.set.w0,.int .u64 t.set.w1,.int .u64 t.set.w2,.int .u64 t.set.w3]) (.agg #[.int .u64 0,.int .u64 0,.int .u64 0,.int .u64 0])).run Tryz.prog W=.ok true W:=fun W=>setEq W t.set St.nil true hset
      by_cases hlo:t.lo=0
      · have dlo:=(int_eq hlo).1
        have dlox:=(int_eq hlo).2
        by_cases hhi:t.hi=0
        · have dhi:=(int_eq hhi).1
          have dhix:=(int_eq hhi).2
          have HO:=Lib.hid (ownF_yes (t:=t) (by omega) (by rw[hcnt];exact hlen) (.inr hset) (.inr (.inl hk)) (.inr ⟨hlo,hhi⟩) (fun h=>absurd h (by omega)))
          clear hk
          go_wp2_with fail
          clear c0 c5 c6 c7 c8 s1 s2 s3 s4
          go_loopw [108] (fun i wr=>∃j:Nat,j≤t.parts.length∧i=.int .i64 j∧Hid (formedTo k t j=true)∧Hid (At wr w.heap.size 27 t.cs.toArray)∧Hid (Below w.heap.size w wr)) (fun i _=>t.parts.length-(intOf i).toNat)
          case atStart=>exact ⟨0,Nat.zero_le _,rfl,Lib.hid (formedTo_zero _),HA0,Lib.hid ((Below.refl _ _).alloc (Nat.le_refl _) _)⟩
          case round =>
            obtain ⟨j,hj,rfl,hT,hA,hB⟩:=hrel
            by_cases hlt:j<t.parts.length
            · have hcell:=(At.tr_cell hA.out).2.1
              obtain ⟨b,off,ha,hb,hr⟩:=HI.out.2.2.1 (by rw[HN.out];omega)
              have HR:=Lib.hid (range_below (hr j hlt) hb (Nat.le_refl _) hB.out)
              have HP:=Lib.hid (Tr.In.next (HI.out.2.2.2 j hlt) hB.out)
              clear hr hb
              rw[ha] at hcell
              clear ha
              have hjz:(0:Int)≤(j:Int):=by omega
              have hjn:(j:Int)<(t.parts.length:Int):=by omega
              obtain ⟨v,hv⟩:∃v:Bool,formedS k t.parts[j]=v:=⟨_,rfl⟩
              have HV:=Lib.hid hv
              clear hv
              go_wp2_with (refine wpList_load_mid rfl 27 _ rfl b (off+j*9) rfl t.parts[j].cs _ HR.out Tryz.underlying27 rfl (by rw[Tr.cs_length];kernel_rfl) ?_)
              refine (HIH.out t.parts[j] _ HP.out).mono ?_
              rintro e w3 ⟨rfl,hb3⟩
              rw[HV.out]
              have HA:=Lib.hid (hA.out.step hb3 rfl)
              have HB:=Lib.hid (below_step hB.out hb3 rfl rfl rfl rfl)
              clear hb3 hcell
              cases v
              · go_wp2_with fail
                go_ret
                exact ⟨ret_bool (formedS_not hlt HV.out).symm,HB.out⟩
              · go_wp2_with fail
                exact ⟨⟨j+1,by omega,by go_num,Lib.hid (formedTo_succ hlt hT.out HV.out),HA,HB⟩,by simp[intOf];omega⟩
            · obtain rfl:j=t.parts.length:=by omega
              go_wp2_with fail
              go_ret
              exact ⟨ret_bool (formedS_yes HO.out hT.out).symm,hB.out⟩
        · have dhi:=(int_ne hhi).1
          have dhix:=(int_ne hhi).2
          have HF:=Lib.hid (formedS_own (k:=k) (ownF_hi (by omega) hhi))
          clear hk
          go_wp2_with fail
          go_ret
          exact ⟨ret_bool HF.out.symm,(Below.refl _ _).alloc (Nat.le_refl _) _⟩
      · have dlo:=(int_ne hlo).1
        have dlox:=(int_ne hlo).2
        have HF:=Lib.hid (formedS_own (k:=k) (ownF_lo (by omega) hlo))
        clear hk
        go_wp2_with fail
        go_ret
        exact ⟨ret_bool HF.out.symm,(Below.refl _ _).alloc (Nat.le_refl _) _⟩
    · have hsetf:t.set.eqb St.nil=false:=by simpa using hset
      have ds:∀W,(Op.equalIn 10000 24 (.agg #[.int .u64 t.set.w0,.int .u64 t.set.w1,.int .u64 t.set.w2,.int .u64 t.set.w3]) (.agg #[.int .u64 0,.int .u64 0,.int .u64 0,.int .u64 0])).run Tryz.prog W=.ok false W:=fun W=>setEq W t.set St.nil false hsetf
      have HF:=Lib.hid (formedS_own (k:=k) (ownF_set (by omega) hsetf))
      clear hk
      go_wp2_with fail
      go_ret
      exact ⟨ret_bool HF.out.symm,(Below.refl _ _).alloc (Nat.le_refl _) _⟩
  · have dlen:=(int_ne hlen).1
    have dlenx:=(int_ne hlen).2
    have HF:=Lib.hid (formedS_own (k:=k) (ownF_len (by rw[hcnt];exact hlen)))
    clear hk
    go_wp2_with fail
    go_ret
    exact ⟨ret_bool HF.out.symm,(Below.refl _ _).alloc (Nat.le_refl _) _⟩
end Go.Proofs.YtgmpfnfomgadeaaGreat

/- What the reference's Deep answers. -/
set_option maxHeartbeats 2000000
set_option maxRecDepth 100000
namespace Go.Proofs.YtgmpfnfomgadeaaGreat
open Go.RowKit
theorem refDeep:∀(k:Nat) (m:Int) (t:Tr) (w:World),0≤m→m≤1000→Tr.In w k t →
    Calls Tryz.prog 18 #[.agg t.cs.toArray,.int .i64 m] w fun e w'=>e=.returned (.int .i64 (deepS k m t))∧Below w.heap.size w w'
  | 0,_,_,_,_,_,h=>h.elim
  | k+1,m,t,w,h0,h1,h=>by
    have hlen:t.parts.length≤9223372036854775807:=by have:=h.2.1;omega
    have hn:=h.2.1.1
    have HI:=Lib.hid h
    have HC:=Lib.hid (At.tr_cell (At.new w 27 t.cs.toArray))
    clear h
    have hcell:=HC.out.2.1
    go_enter Tryz.func18,Tryz.ntmps18
    by_cases hm:m<1
    · have hS:Hid (deepS (k+1) m t=1):=by show (if m<1 then 1 else 1+maxl _)=_;rw[if_pos hm]
      go_wp2_with fail
      go_ret
      exact ⟨by rw[hS.out];rfl,(Below.refl _ _).alloc (Nat.le_refl _) _⟩
    · have HM:=Lib.hid hm
      go_wp2_with fail
      go_loopw [5,13] (fun x i wr=>∃j:Nat,j≤t.parts.length∧i=.int .i64 j∧x=.int .i64 (deepTo k (m-1) t j)∧Hid (At wr w.heap.size 27 t.cs.toArray)∧Hid (Below w.heap.size w wr)) (fun _ i _=>t.parts.length-(intOf i).toNat)
      case atStart=>exact ⟨0,Nat.zero_le _,rfl,by rw[deepTo_zero],Lib.hid (At.new _ _ _),Lib.hid ((Below.refl _ _).alloc (Nat.le_refl _) _)⟩
      case round =>
        obtain ⟨j,hj,rfl,rfl,hA,hB⟩:=hrel
        clear hcell
        have hcell:=(At.tr_cell hA.out).2.1
        have hd0:=deepTo_ge k (m-1) t j
        have hd1:=deepTo_le k (m-1) t j (by omega)
        by_cases hlt:j<t.parts.length
        · obtain ⟨b,off,ha,hb,hr⟩:=HI.out.2.2.1 (by rw[hn];omega)
          have HR:=Lib.hid (range_below (hr j hlt) hb (Nat.le_refl _) hB.out)
          have HP:=Lib.hid (Tr.In.next (HI.out.2.2.2 j hlt) hB.out)
          have HD:=Lib.hid (deepTo_succ k (m-1) t j hlt)
          have he0:=deepS_ge k (m-1) t.parts[j]
          have he1:=deepS_le k (m-1) t.parts[j] (by omega)
          obtain ⟨x,hx⟩:∃x:Int,deepTo k (m-1) t j=x:=⟨_,rfl⟩
          obtain ⟨y,hy⟩:∃y:Int,deepS k (m-1) t.parts[j]=y:=⟨_,rfl⟩
          rw[hx] at hd0 hd1 HD ⊢
          rw[hy] at he0 he1 HD
          have HY:=Lib.hid hy
          clear hx hy hr hb
          rw[ha] at hcell
          clear ha
          have hjz:(0:Int)≤(j:Int):=by omega
          have hjn:(j:Int)<(t.parts.length:Int):=by omega
          go_wp2_with (refine wpList_load_mid rfl 27 _ rfl b (off+j*9) rfl t.parts[j].cs _ HR.out Tryz.underlying27 rfl (by rw[Tr.cs_length];kernel_rfl) ?_)
          refine (refDeep k (m-1) t.parts[j] _ (by omega) (by omega) HP.out).mono ?_
          rintro e w3 ⟨rfl,hb3⟩
          rw[HY.out]
          have HA:=Lib.hid (hA.out.step hb3 rfl)
          have HB:=Lib.hid (below_step hB.out hb3 rfl rfl rfl rfl)
          clear hb3 hcell
          by_cases hg:x<y
          · have hd:decide (x<y)=true:=by rw[decide_eq_true_iff];exact hg
            go_wp2_with fail
            exact ⟨⟨j+1,by omega,by go_num,by rw[HD.out,Int.max_eq_right (by omega)],HA,HB⟩,by simp[intOf];omega⟩
          · have hd:decide (x<y)=false:=by rw[decide_eq_false_iff_not];exact hg
            have hg':y≤x:=by omega
            go_wp2_with fail
            exact ⟨⟨j+1,by omega,by go_num,by rw[HD.out,Int.max_eq_left hg'],HA,HB⟩,by simp[intOf];omega⟩
        · obtain rfl:j=t.parts.length:=by omega
          have hS:=deepTo_all k m t (by have:=HM.out;omega)
          go_wp2_with fail
          go_ret
          exact ⟨rfl,hB.out⟩
end Go.Proofs.YtgmpfnfomgadeaaGreat
