/- What the reference's Spans answers. What the reference's Spans answers. What the reference's Spans answers. What the reference's Spans answers. What the reference's Spans answers. What the reference's Spans answers. What the reference's Spans answers. What the reference's Spans answers, at each formed pattern. -/
import Derived.Test.YtgmpfnfomgadeaaGreatProg
import Derived.Test.YtgmpfnfomgadeaaGreatMaa
import Derived.Test.YtgmpfnfomgadeaaGreatMab
import Derived.Test.YtgmpfnfomgadeaaGreatMad
import Derived.Test.YtgmpfnfomgadeaaGreatMac
import Derived.Deep.RegionWith
import Derived.BigRegion
import Derived.BigQuiet
import Derived.StillTailTactics
import Derived.Deep.RegionHeld3
import Derived.Test.YtgmpfnfomgadeaaGreatMah
set_option linter.unusedSimpArgs false
set_option linter.unusedVariables false
set_option maxHeartbeats 8000000
set_option maxRecDepth 100000
namespace Go.Proofs.YtgmpfnfomgadeaaGreat
open Go.RowKit
theorem spansAt_0 (k:Nat) (l:List Nat) (ih:SpansAt k l) (t:Tr) (A:Option Addr) (c:Nat) (w:World) (h:Tr.In w (k+1) t) (hs:slimS (k+1) t) (hf:formedS (k+1) t=true) (hw:IsBytes w A l.length l) (hl10:l.length≤10) (hk:t.kind=0) :
    Calls Tryz.prog 15 #[.agg t.cs.toArray,.slice A l.length c] w (Tabled w (l.length+1) (spansS l (k+1) t)):=by
  obtain ⟨n,hn⟩:∃n,n=l.length+1:=⟨_,rfl⟩
  obtain ⟨wl,hwl⟩:∃wl,wl=l.length:=⟨_,rfl⟩
  rw[←hn]
  have HL:Hid (n=l.length+1):=hn
  have hnw:n=wl+1:=by omega
  have hn11:n≤1000:=by omega
  have HNW:=Lib.hid hnw
  rw[←hwl] at hl10 hw ⊢
  have HWl:=Lib.hid hwl
  have HWb:=Lib.hid hw
  have HI:=Lib.hid h
  have HSl:=Lib.hid hs
  have HFo:=Lib.hid hf
  have HIH:=Lib.hid ih
  have hpn:=h.2.1.1
  have HN:=Lib.hid hpn
  have hp2000:t.parts.length≤2000:=hs.1
  have HK:=Lib.hid hk
  clear h hs hf ih hn hwl hw hnw
  obtain ⟨i0,hi0,hz0,hz1,hz2⟩:=info_parts info_table
  have HC:=Lib.hid (At.tr_cell (At.new w 27 t.cs.toArray))
  have hcell:=HC.out.2.1
  go_enter Tryz.func15,Tryz.ntmps15
  go_wp2_with fail
  go_loopw [6,21] (fun v x wr=>∃(j:Nat) (ts:List TG),j≤t.parts.length∧x=.int .i64 j∧ts.length=j∧Hid (TabsAt wr (w.heap.size+1) v n ts ((t.parts.take j).map (spansS l k)))∧Hid (At wr w.heap.size 27 t.cs.toArray)∧Hid (Below w.heap.size w wr)) (fun _ x _=>t.parts.length-(intOf x).toNat)
  case atStart=>exact ⟨0,[],Nat.zero_le _,rfl,rfl,Lib.hid (TabsAt.nil _ _ _),Lib.hid (At.new _ _ _),Lib.hid ((Below.refl _ _).alloc (Nat.le_refl _) _)⟩
  case round =>
    obtain ⟨j,ts,hj,rfl,htl,HTs,HAt,HB⟩:=hrel
    clear hcell
    by_cases hlt:j<t.parts.length
    · have hcell:=(At.tr_cell HAt.out).2.1
      obtain ⟨b,off,ha,hb,hr⟩:=HI.out.2.2.1 (by rw[HN.out];omega)
      have HR:=Lib.hid (range_below (hr j hlt) hb (Nat.le_refl _) HB.out)
      have HP:=Lib.hid (Tr.In.next (HI.out.2.2.2 j hlt) HB.out)
      have HPs:=Lib.hid (HSl.out.2 _ (List.getElem_mem hlt))
      have HPf:=Lib.hid (formed_part HFo.out hlt)
      clear hr hb
      rw[ha] at hcell
      clear ha
      have hjz:(0:Int)≤(j:Int):=by omega
      have hjn:(j:Int)<(t.parts.length:Int):=by omega
      go_wp2_with (refine wpList_load_mid rfl 27 _ rfl b (off+j*9) rfl t.parts[j].cs _ HR.out Tryz.underlying27 rfl (by rw[Tr.cs_length];kernel_rfl) ?_)
      have hih:=HIH.out t.parts[j] A c wr HP.out HPs.out HPf.out (by rw[←HWl.out];exact HWb.out.below HB.out) (by rw[←HWl.out];exact hl10)
      rw[←HWl.out,←HNW.out] at hih
      refine hih.mono ?_
      clear hih
      rintro e w3 ⟨g2,r2,rfl,hT2,hb3⟩
      have hws:=HB.out.size
      have hat1:=HAt.out.lt
      have HTs3:=Lib.hid (HTs.out.next hb3)
      have HAt3:=Lib.hid (HAt.out.step hb3 rfl)
      have HB3:=Lib.hid (HB.out.trans (hb3.mono hws))
      have HT2:=Lib.hid (hT2.lower (show w.heap.size+1≤wr.heap.size by omega))
      have hw3:=hb3.size
      have HNew:Hid (∀bb,u6.ownBlock=some bb→g2≠bb∧∀i,i<n→r2 i≠bb):=fun bb hbb=>by
        have hlt2:=(World.ownsRow.lt HTs.out.own bb hbb).2
        exact ⟨by have:=hT2.low;omega,fun i hi=>by have:=(hT2.rlow i hi).1;omega⟩
      clear hb3 hcell hT2
      go_wp2_with (first
        | (at_builtin
           refine wpList_append_lies _ rfl _ _ _ rfl (w.heap.size+1) 44 i0 _ 1 24 Tryz.underlying45 hi0 hz0 hz1 hz2 rfl (by omega) u6 _ _ rfl (HTs3.out.next ((Below.refl _ _).alloc (Nat.le_refl _) _)).own ⟨w3.heap.size,0,none⟩ 1 1 [tv n (g2,r2)] rfl rfl ?c1 ?c2 (by omega) ?c3 ?c4 ?c5 _ rfl ?_
           case c1=>exact (cell_one_new _ _ _)
           case c2=>simp[Value.oneCell',tv]
           case c3=>unfold maxLen;omega
           case c4=>omega
           case c5=>simp;omega
           intro g cap w4 hown4 hg4 hat4 hlt4))
      refine ⟨⟨j+1,ts++[(g2,r2)],by omega,by go_num,by simp[htl],Lib.hid ?_,Lib.hid ?_,Lib.hid ?_⟩,by simp[intOf];omega⟩
      · have hpush:=TabsAt.push (HTs3.out.next ((Below.refl _ _).alloc (Nat.le_refl _) _)) (HT2.out.next ((Below.refl _ _).alloc (Nat.le_refl _) _)) hown4 hg4 hat4 (Nat.le_refl _) HNew.out
        rw[htl] at hpush
        rw[List.take_succ_eq_append_getElem hlt,List.map_append,List.map_cons,List.map_nil]
        exact hpush
      · exact At.grown' (HAt3.out.alloc _) hg4 (fun e=>by have:=(World.ownsRow.lt HTs.out.own _ e.symm).1;omega)
      · exact below_grown' (HB3.out.alloc (by omega) _) (by simp;omega) hg4 (fun bb hbb=>by have:=(World.ownsRow.lt HTs.out.own bb hbb).1;omega)
    · obtain rfl:j=t.parts.length:=by omega
      have hts:=HTs.out
      rw[List.take_length] at hts
      have HTs:=Lib.hid hts
      clear hts
      have HS:Hid (spansS l (k+1) t=noF):=spans_0 hk HL.out
      have c0:=(At.tr_cell HAt.out).1
      rw[hk] at c0
      clear hk
      go_wp2_with fail
      refine (refBlankI n (by omega) _ (by have:=HNW.out;omega) _).mono ?_
      rintro e w2 ⟨g2,r2,rfl,hg2,hb2⟩
      have HW:=Lib.hid HB.out.size
      have HAt:=Lib.hid (HAt.out.step hb2 rfl)
      have HTs:=Lib.hid (HTs.out.next hb2)
      have HB:=Lib.hid (HB.out.trans (hb2.mono HB.out.size))
      have HT2:=Lib.hid (hg2.lower HW.out)
      clear hg2 hb2
      clear c0
      have c0:=(At.tr_cell HAt.out).1
      rw[HK.out] at c0
      go_wp2_with fail
      go_ret
      exact ⟨g2,r2,rfl,by rw[HS.out];exact HT2.out,HB.out⟩
theorem spansAt_1 (k:Nat) (l:List Nat) (ih:SpansAt k l) (t:Tr) (A:Option Addr) (c:Nat) (w:World) (h:Tr.In w (k+1) t) (hs:slimS (k+1) t) (hf:formedS (k+1) t=true) (hw:IsBytes w A l.length l) (hl10:l.length≤10) (hk:t.kind=1) :
    Calls Tryz.prog 15 #[.agg t.cs.toArray,.slice A l.length c] w (Tabled w (l.length+1) (spansS l (k+1) t)):=by
  obtain ⟨n,hn⟩:∃n,n=l.length+1:=⟨_,rfl⟩
  obtain ⟨wl,hwl⟩:∃wl,wl=l.length:=⟨_,rfl⟩
  rw[←hn]
  have HL:Hid (n=l.length+1):=hn
  have hnw:n=wl+1:=by omega
  have hn11:n≤1000:=by omega
  have HNW:=Lib.hid hnw
  rw[←hwl] at hl10 hw ⊢
  have HWl:=Lib.hid hwl
  have HWb:=Lib.hid hw
  have HI:=Lib.hid h
  have HSl:=Lib.hid hs
  have HFo:=Lib.hid hf
  have HIH:=Lib.hid ih
  have hpn:=h.2.1.1
  have HN:=Lib.hid hpn
  have hp2000:t.parts.length≤2000:=hs.1
  have HK:=Lib.hid hk
  clear h hs hf ih hn hwl hw hnw
  obtain ⟨i0,hi0,hz0,hz1,hz2⟩:=info_parts info_table
  have HC:=Lib.hid (At.tr_cell (At.new w 27 t.cs.toArray))
  have hcell:=HC.out.2.1
  go_enter Tryz.func15,Tryz.ntmps15
  go_wp2_with fail
  go_loopw [6,21] (fun v x wr=>∃(j:Nat) (ts:List TG),j≤t.parts.length∧x=.int .i64 j∧ts.length=j∧Hid (TabsAt wr (w.heap.size+1) v n ts ((t.parts.take j).map (spansS l k)))∧Hid (At wr w.heap.size 27 t.cs.toArray)∧Hid (Below w.heap.size w wr)) (fun _ x _=>t.parts.length-(intOf x).toNat)
  case atStart=>exact ⟨0,[],Nat.zero_le _,rfl,rfl,Lib.hid (TabsAt.nil _ _ _),Lib.hid (At.new _ _ _),Lib.hid ((Below.refl _ _).alloc (Nat.le_refl _) _)⟩
  case round =>
    obtain ⟨j,ts,hj,rfl,htl,HTs,HAt,HB⟩:=hrel
    clear hcell
    by_cases hlt:j<t.parts.length
    · have hcell:=(At.tr_cell HAt.out).2.1
      obtain ⟨b,off,ha,hb,hr⟩:=HI.out.2.2.1 (by rw[HN.out];omega)
      have HR:=Lib.hid (range_below (hr j hlt) hb (Nat.le_refl _) HB.out)
      have HP:=Lib.hid (Tr.In.next (HI.out.2.2.2 j hlt) HB.out)
      have HPs:=Lib.hid (HSl.out.2 _ (List.getElem_mem hlt))
      have HPf:=Lib.hid (formed_part HFo.out hlt)
      clear hr hb
      rw[ha] at hcell
      clear ha
      have hjz:(0:Int)≤(j:Int):=by omega
      have hjn:(j:Int)<(t.parts.length:Int):=by omega
      go_wp2_with (refine wpList_load_mid rfl 27 _ rfl b (off+j*9) rfl t.parts[j].cs _ HR.out Tryz.underlying27 rfl (by rw[Tr.cs_length];kernel_rfl) ?_)
      have hih:=HIH.out t.parts[j] A c wr HP.out HPs.out HPf.out (by rw[←HWl.out];exact HWb.out.below HB.out) (by rw[←HWl.out];exact hl10)
      rw[←HWl.out,←HNW.out] at hih
      refine hih.mono ?_
      clear hih
      rintro e w3 ⟨g2,r2,rfl,hT2,hb3⟩
      have hws:=HB.out.size
      have hat1:=HAt.out.lt
      have HTs3:=Lib.hid (HTs.out.next hb3)
      have HAt3:=Lib.hid (HAt.out.step hb3 rfl)
      have HB3:=Lib.hid (HB.out.trans (hb3.mono hws))
      have HT2:=Lib.hid (hT2.lower (show w.heap.size+1≤wr.heap.size by omega))
      have hw3:=hb3.size
      have HNew:Hid (∀bb,u6.ownBlock=some bb→g2≠bb∧∀i,i<n→r2 i≠bb):=fun bb hbb=>by
        have hlt2:=(World.ownsRow.lt HTs.out.own bb hbb).2
        exact ⟨by have:=hT2.low;omega,fun i hi=>by have:=(hT2.rlow i hi).1;omega⟩
      clear hb3 hcell hT2
      go_wp2_with (first
        | (at_builtin
           refine wpList_append_lies _ rfl _ _ _ rfl (w.heap.size+1) 44 i0 _ 1 24 Tryz.underlying45 hi0 hz0 hz1 hz2 rfl (by omega) u6 _ _ rfl (HTs3.out.next ((Below.refl _ _).alloc (Nat.le_refl _) _)).own ⟨w3.heap.size,0,none⟩ 1 1 [tv n (g2,r2)] rfl rfl ?c1 ?c2 (by omega) ?c3 ?c4 ?c5 _ rfl ?_
           case c1=>exact (cell_one_new _ _ _)
           case c2=>simp[Value.oneCell',tv]
           case c3=>unfold maxLen;omega
           case c4=>omega
           case c5=>simp;omega
           intro g cap w4 hown4 hg4 hat4 hlt4))
      refine ⟨⟨j+1,ts++[(g2,r2)],by omega,by go_num,by simp[htl],Lib.hid ?_,Lib.hid ?_,Lib.hid ?_⟩,by simp[intOf];omega⟩
      · have hpush:=TabsAt.push (HTs3.out.next ((Below.refl _ _).alloc (Nat.le_refl _) _)) (HT2.out.next ((Below.refl _ _).alloc (Nat.le_refl _) _)) hown4 hg4 hat4 (Nat.le_refl _) HNew.out
        rw[htl] at hpush
        rw[List.take_succ_eq_append_getElem hlt,List.map_append,List.map_cons,List.map_nil]
        exact hpush
      · exact At.grown' (HAt3.out.alloc _) hg4 (fun e=>by have:=(World.ownsRow.lt HTs.out.own _ e.symm).1;omega)
      · exact below_grown' (HB3.out.alloc (by omega) _) (by simp;omega) hg4 (fun bb hbb=>by have:=(World.ownsRow.lt HTs.out.own bb hbb).1;omega)
    · obtain rfl:j=t.parts.length:=by omega
      have hts:=HTs.out
      rw[List.take_length] at hts
      have HTs:=Lib.hid hts
      clear hts
      have HS:Hid (spansS l (k+1) t=eqF):=spans_1 hk HL.out
      have c0:=(At.tr_cell HAt.out).1
      rw[hk] at c0
      clear hk
      go_wp2_with fail
      refine (refBlankI n (by omega) _ (by have:=HNW.out;omega) _).mono ?_
      rintro e w2 ⟨g2,r2,rfl,hg2,hb2⟩
      have HW:=Lib.hid HB.out.size
      have HAt:=Lib.hid (HAt.out.step hb2 rfl)
      have HTs:=Lib.hid (HTs.out.next hb2)
      have HB:=Lib.hid (HB.out.trans (hb2.mono HB.out.size))
      have HT2:=Lib.hid (hg2.lower HW.out)
      clear hg2 hb2
      clear c0
      have c0:=(At.tr_cell HAt.out).1
      rw[HK.out] at c0
      go_wp2_with fail
      refine (refOneI n (by omega) _ (by have:=HNW.out;omega) _).mono ?_
      rintro e w3 ⟨g2,r2,rfl,hg2,hb2⟩
      have HW:=Lib.hid HB.out.size
      have HAt:=Lib.hid (HAt.out.step hb2 rfl)
      have HTs:=Lib.hid (HTs.out.next hb2)
      have HB:=Lib.hid (HB.out.trans (hb2.mono HB.out.size))
      have HT2:=Lib.hid (hg2.lower HW.out)
      clear hg2 hb2 c0
      go_wp2_with fail
      go_ret
      exact ⟨g2,r2,rfl,by rw[HS.out];exact HT2.out,HB.out⟩
theorem spansAt_3 (k:Nat) (l:List Nat) (ih:SpansAt k l) (t:Tr) (A:Option Addr) (c:Nat) (w:World) (h:Tr.In w (k+1) t) (hs:slimS (k+1) t) (hf:formedS (k+1) t=true) (hw:IsBytes w A l.length l) (hl10:l.length≤10) (hk:t.kind=3) :
    Calls Tryz.prog 15 #[.agg t.cs.toArray,.slice A l.length c] w (Tabled w (l.length+1) (spansS l (k+1) t)):=by
  obtain ⟨n,hn⟩:∃n,n=l.length+1:=⟨_,rfl⟩
  obtain ⟨wl,hwl⟩:∃wl,wl=l.length:=⟨_,rfl⟩
  rw[←hn]
  have HL:Hid (n=l.length+1):=hn
  have hnw:n=wl+1:=by omega
  have hn11:n≤1000:=by omega
  have HNW:=Lib.hid hnw
  rw[←hwl] at hl10 hw ⊢
  have HWl:=Lib.hid hwl
  have HWb:=Lib.hid hw
  have HI:=Lib.hid h
  have HSl:=Lib.hid hs
  have HFo:=Lib.hid hf
  have HIH:=Lib.hid ih
  have hpn:=h.2.1.1
  have HN:=Lib.hid hpn
  have hp2000:t.parts.length≤2000:=hs.1
  have HK:=Lib.hid hk
  clear h hs hf ih hn hwl hw hnw
  obtain ⟨i0,hi0,hz0,hz1,hz2⟩:=info_parts info_table
  have HC:=Lib.hid (At.tr_cell (At.new w 27 t.cs.toArray))
  have hcell:=HC.out.2.1
  go_enter Tryz.func15,Tryz.ntmps15
  go_wp2_with fail
  go_loopw [6,21] (fun v x wr=>∃(j:Nat) (ts:List TG),j≤t.parts.length∧x=.int .i64 j∧ts.length=j∧Hid (TabsAt wr (w.heap.size+1) v n ts ((t.parts.take j).map (spansS l k)))∧Hid (At wr w.heap.size 27 t.cs.toArray)∧Hid (Below w.heap.size w wr)) (fun _ x _=>t.parts.length-(intOf x).toNat)
  case atStart=>exact ⟨0,[],Nat.zero_le _,rfl,rfl,Lib.hid (TabsAt.nil _ _ _),Lib.hid (At.new _ _ _),Lib.hid ((Below.refl _ _).alloc (Nat.le_refl _) _)⟩
  case round =>
    obtain ⟨j,ts,hj,rfl,htl,HTs,HAt,HB⟩:=hrel
    clear hcell
    by_cases hlt:j<t.parts.length
    · have hcell:=(At.tr_cell HAt.out).2.1
      obtain ⟨b,off,ha,hb,hr⟩:=HI.out.2.2.1 (by rw[HN.out];omega)
      have HR:=Lib.hid (range_below (hr j hlt) hb (Nat.le_refl _) HB.out)
      have HP:=Lib.hid (Tr.In.next (HI.out.2.2.2 j hlt) HB.out)
      have HPs:=Lib.hid (HSl.out.2 _ (List.getElem_mem hlt))
      have HPf:=Lib.hid (formed_part HFo.out hlt)
      clear hr hb
      rw[ha] at hcell
      clear ha
      have hjz:(0:Int)≤(j:Int):=by omega
      have hjn:(j:Int)<(t.parts.length:Int):=by omega
      go_wp2_with (refine wpList_load_mid rfl 27 _ rfl b (off+j*9) rfl t.parts[j].cs _ HR.out Tryz.underlying27 rfl (by rw[Tr.cs_length];kernel_rfl) ?_)
      have hih:=HIH.out t.parts[j] A c wr HP.out HPs.out HPf.out (by rw[←HWl.out];exact HWb.out.below HB.out) (by rw[←HWl.out];exact hl10)
      rw[←HWl.out,←HNW.out] at hih
      refine hih.mono ?_
      clear hih
      rintro e w3 ⟨g2,r2,rfl,hT2,hb3⟩
      have hws:=HB.out.size
      have hat1:=HAt.out.lt
      have HTs3:=Lib.hid (HTs.out.next hb3)
      have HAt3:=Lib.hid (HAt.out.step hb3 rfl)
      have HB3:=Lib.hid (HB.out.trans (hb3.mono hws))
      have HT2:=Lib.hid (hT2.lower (show w.heap.size+1≤wr.heap.size by omega))
      have hw3:=hb3.size
      have HNew:Hid (∀bb,u6.ownBlock=some bb→g2≠bb∧∀i,i<n→r2 i≠bb):=fun bb hbb=>by
        have hlt2:=(World.ownsRow.lt HTs.out.own bb hbb).2
        exact ⟨by have:=hT2.low;omega,fun i hi=>by have:=(hT2.rlow i hi).1;omega⟩
      clear hb3 hcell hT2
      go_wp2_with (first
        | (at_builtin
           refine wpList_append_lies _ rfl _ _ _ rfl (w.heap.size+1) 44 i0 _ 1 24 Tryz.underlying45 hi0 hz0 hz1 hz2 rfl (by omega) u6 _ _ rfl (HTs3.out.next ((Below.refl _ _).alloc (Nat.le_refl _) _)).own ⟨w3.heap.size,0,none⟩ 1 1 [tv n (g2,r2)] rfl rfl ?c1 ?c2 (by omega) ?c3 ?c4 ?c5 _ rfl ?_
           case c1=>exact (cell_one_new _ _ _)
           case c2=>simp[Value.oneCell',tv]
           case c3=>unfold maxLen;omega
           case c4=>omega
           case c5=>simp;omega
           intro g cap w4 hown4 hg4 hat4 hlt4))
      refine ⟨⟨j+1,ts++[(g2,r2)],by omega,by go_num,by simp[htl],Lib.hid ?_,Lib.hid ?_,Lib.hid ?_⟩,by simp[intOf];omega⟩
      · have hpush:=TabsAt.push (HTs3.out.next ((Below.refl _ _).alloc (Nat.le_refl _) _)) (HT2.out.next ((Below.refl _ _).alloc (Nat.le_refl _) _)) hown4 hg4 hat4 (Nat.le_refl _) HNew.out
        rw[htl] at hpush
        rw[List.take_succ_eq_append_getElem hlt,List.map_append,List.map_cons,List.map_nil]
        exact hpush
      · exact At.grown' (HAt3.out.alloc _) hg4 (fun e=>by have:=(World.ownsRow.lt HTs.out.own _ e.symm).1;omega)
      · exact below_grown' (HB3.out.alloc (by omega) _) (by simp;omega) hg4 (fun bb hbb=>by have:=(World.ownsRow.lt HTs.out.own bb hbb).1;omega)
    · obtain rfl:j=t.parts.length:=by omega
      have hts:=HTs.out
      rw[List.take_length] at hts
      have HTs:=Lib.hid hts
      clear hts
      have HS:Hid (spansS l (k+1) t=(t.parts.map (spansS l k)).foldl (fun f g=>thenF f g n) eqF):=spans_3 hk HL.out
      have c0:=(At.tr_cell HAt.out).1
      rw[hk] at c0
      clear hk
      go_wp2_with fail
      refine (refBlankI n (by omega) _ (by have:=HNW.out;omega) _).mono ?_
      rintro e w2 ⟨g2,r2,rfl,hg2,hb2⟩
      have HW:=Lib.hid HB.out.size
      have HAt:=Lib.hid (HAt.out.step hb2 rfl)
      have HTs:=Lib.hid (HTs.out.next hb2)
      have HB:=Lib.hid (HB.out.trans (hb2.mono HB.out.size))
      have HT2:=Lib.hid (hg2.lower HW.out)
      clear hg2 hb2
      clear c0
      have c0:=(At.tr_cell HAt.out).1
      rw[HK.out] at c0
      go_wp2_with fail
      refine (refOneI n (by omega) _ (by have:=HNW.out;omega) _).mono ?_
      rintro e w3 ⟨g2,r2,rfl,hg2,hb2⟩
      have HW:=Lib.hid HB.out.size
      have HAt:=Lib.hid (HAt.out.step hb2 rfl)
      have HTs:=Lib.hid (HTs.out.next hb2)
      have HB:=Lib.hid (HB.out.trans (hb2.mono HB.out.size))
      have HO:Hid (Own w3 w.heap.size g2 n (((t.parts.map (spansS l k)).take 0).foldl (fun f g=>thenF f g n) eqF)):=Own.of hg2 HW.out
      clear hg2 hb2 c0
      obtain ⟨A6,cap6,hv6⟩:=HTs.out.len_form
      have hlenT:=HTs.out.len
      subst hv6
      go_wp2_with fail
      go_loopw [8,72] (fun tvv x wr=>∃(j gt:Nat),j≤ts.length∧x=.int .i64 j∧tvv=.slice (some ⟨gt,0,none⟩) n n∧Hid (Own wr w.heap.size gt n (((t.parts.map (spansS l k)).take j).foldl (fun f g=>thenF f g n) eqF))∧Hid (TabsAt wr (w.heap.size+1) (.slice A6 ts.length cap6) n ts (t.parts.map (spansS l k)))∧Hid (Below w.heap.size w wr)) (fun _ x _=>ts.length-(intOf x).toNat)
      case atStart=>exact ⟨0,_,Nat.zero_le _,rfl,rfl,HO,HTs,HB⟩
      case round =>
        clear HO HTs HB HAt
        obtain ⟨j,gt,hj,rfl,rfl,HO,HTs,HB⟩:=hrel
        have hlenT:=HTs.out.len
        by_cases hltj:j<ts.length
        · have hltf:j<(t.parts.map (spansS l k)).length:=by omega
          obtain ⟨gr,capr,hvr,_,_⟩:=HTs.out.form (by omega)
          injection hvr with hA6 _ hcap
          subst hA6
          subst hcap
          have hc:=HTs.out.cell j hltj
          have hTj:=Lib.hid ((HTs.out.tab j hltj hltf).tin)
          have hj0:(0:Int)≤(j:Int):=by omega
          have hjn:(j:Int)<(ts.length:Int):=by omega
          go_wp2_with fail
          refine (refThen n gt ts[j].1 _ _ (by omega) _ HO.out.tin hTj.out).mono ?_
          rintro e w4 ⟨g4,r4,rfl,hT4,hb4⟩
          have HO4:Hid (Own w4 w.heap.size g4 n (((t.parts.map (spansS l k)).take (j+1)).foldl (fun f g=>thenF f g n) eqF)):=by
            rw[List.take_succ_eq_append_getElem hltf,List.foldl_append]
            exact Own.of hT4 HB.out.size
          have HTs4:=Lib.hid (HTs.out.next hb4)
          have HB4:=Lib.hid (HB.out.trans (hb4.mono HB.out.size))
          clear hT4 hb4 hc
          go_wp2_with fail
          exact ⟨⟨j+1,g4,by omega,by go_num,rfl,HO4,HTs4,HB4⟩,by simp[intOf];omega⟩
        · obtain rfl:j=ts.length:=by omega
          have ho:=HO.out
          rw[List.take_of_length_le (by omega)] at ho
          obtain ⟨rr,hrr⟩:=ho
          have HRR:=Lib.hid hrr
          clear hrr
          go_wp2_with fail
          go_ret
          exact ⟨gt,rr,rfl,by rw[HS.out];exact HRR.out,HB.out⟩
theorem spansAt_4 (k:Nat) (l:List Nat) (ih:SpansAt k l) (t:Tr) (A:Option Addr) (c:Nat) (w:World) (h:Tr.In w (k+1) t) (hs:slimS (k+1) t) (hf:formedS (k+1) t=true) (hw:IsBytes w A l.length l) (hl10:l.length≤10) (hk:t.kind=4) :
    Calls Tryz.prog 15 #[.agg t.cs.toArray,.slice A l.length c] w (Tabled w (l.length+1) (spansS l (k+1) t)):=by
  obtain ⟨n,hn⟩:∃n,n=l.length+1:=⟨_,rfl⟩
  obtain ⟨wl,hwl⟩:∃wl,wl=l.length:=⟨_,rfl⟩
  rw[←hn]
  have HL:Hid (n=l.length+1):=hn
  have hnw:n=wl+1:=by omega
  have hn11:n≤1000:=by omega
  have HNW:=Lib.hid hnw
  rw[←hwl] at hl10 hw ⊢
  have HWl:=Lib.hid hwl
  have HWb:=Lib.hid hw
  have HI:=Lib.hid h
  have HSl:=Lib.hid hs
  have HFo:=Lib.hid hf
  have HIH:=Lib.hid ih
  have hpn:=h.2.1.1
  have HN:=Lib.hid hpn
  have hp2000:t.parts.length≤2000:=hs.1
  have HK:=Lib.hid hk
  clear h hs hf ih hn hwl hw hnw
  obtain ⟨i0,hi0,hz0,hz1,hz2⟩:=info_parts info_table
  have HC:=Lib.hid (At.tr_cell (At.new w 27 t.cs.toArray))
  have hcell:=HC.out.2.1
  go_enter Tryz.func15,Tryz.ntmps15
  go_wp2_with fail
  go_loopw [6,21] (fun v x wr=>∃(j:Nat) (ts:List TG),j≤t.parts.length∧x=.int .i64 j∧ts.length=j∧Hid (TabsAt wr (w.heap.size+1) v n ts ((t.parts.take j).map (spansS l k)))∧Hid (At wr w.heap.size 27 t.cs.toArray)∧Hid (Below w.heap.size w wr)) (fun _ x _=>t.parts.length-(intOf x).toNat)
  case atStart=>exact ⟨0,[],Nat.zero_le _,rfl,rfl,Lib.hid (TabsAt.nil _ _ _),Lib.hid (At.new _ _ _),Lib.hid ((Below.refl _ _).alloc (Nat.le_refl _) _)⟩
  case round =>
    obtain ⟨j,ts,hj,rfl,htl,HTs,HAt,HB⟩:=hrel
    clear hcell
    by_cases hlt:j<t.parts.length
    · have hcell:=(At.tr_cell HAt.out).2.1
      obtain ⟨b,off,ha,hb,hr⟩:=HI.out.2.2.1 (by rw[HN.out];omega)
      have HR:=Lib.hid (range_below (hr j hlt) hb (Nat.le_refl _) HB.out)
      have HP:=Lib.hid (Tr.In.next (HI.out.2.2.2 j hlt) HB.out)
      have HPs:=Lib.hid (HSl.out.2 _ (List.getElem_mem hlt))
      have HPf:=Lib.hid (formed_part HFo.out hlt)
      clear hr hb
      rw[ha] at hcell
      clear ha
      have hjz:(0:Int)≤(j:Int):=by omega
      have hjn:(j:Int)<(t.parts.length:Int):=by omega
      go_wp2_with (refine wpList_load_mid rfl 27 _ rfl b (off+j*9) rfl t.parts[j].cs _ HR.out Tryz.underlying27 rfl (by rw[Tr.cs_length];kernel_rfl) ?_)
      have hih:=HIH.out t.parts[j] A c wr HP.out HPs.out HPf.out (by rw[←HWl.out];exact HWb.out.below HB.out) (by rw[←HWl.out];exact hl10)
      rw[←HWl.out,←HNW.out] at hih
      refine hih.mono ?_
      clear hih
      rintro e w3 ⟨g2,r2,rfl,hT2,hb3⟩
      have hws:=HB.out.size
      have hat1:=HAt.out.lt
      have HTs3:=Lib.hid (HTs.out.next hb3)
      have HAt3:=Lib.hid (HAt.out.step hb3 rfl)
      have HB3:=Lib.hid (HB.out.trans (hb3.mono hws))
      have HT2:=Lib.hid (hT2.lower (show w.heap.size+1≤wr.heap.size by omega))
      have hw3:=hb3.size
      have HNew:Hid (∀bb,u6.ownBlock=some bb→g2≠bb∧∀i,i<n→r2 i≠bb):=fun bb hbb=>by
        have hlt2:=(World.ownsRow.lt HTs.out.own bb hbb).2
        exact ⟨by have:=hT2.low;omega,fun i hi=>by have:=(hT2.rlow i hi).1;omega⟩
      clear hb3 hcell hT2
      go_wp2_with (first
        | (at_builtin
           refine wpList_append_lies _ rfl _ _ _ rfl (w.heap.size+1) 44 i0 _ 1 24 Tryz.underlying45 hi0 hz0 hz1 hz2 rfl (by omega) u6 _ _ rfl (HTs3.out.next ((Below.refl _ _).alloc (Nat.le_refl _) _)).own ⟨w3.heap.size,0,none⟩ 1 1 [tv n (g2,r2)] rfl rfl ?c1 ?c2 (by omega) ?c3 ?c4 ?c5 _ rfl ?_
           case c1=>exact (cell_one_new _ _ _)
           case c2=>simp[Value.oneCell',tv]
           case c3=>unfold maxLen;omega
           case c4=>omega
           case c5=>simp;omega
           intro g cap w4 hown4 hg4 hat4 hlt4))
      refine ⟨⟨j+1,ts++[(g2,r2)],by omega,by go_num,by simp[htl],Lib.hid ?_,Lib.hid ?_,Lib.hid ?_⟩,by simp[intOf];omega⟩
      · have hpush:=TabsAt.push (HTs3.out.next ((Below.refl _ _).alloc (Nat.le_refl _) _)) (HT2.out.next ((Below.refl _ _).alloc (Nat.le_refl _) _)) hown4 hg4 hat4 (Nat.le_refl _) HNew.out
        rw[htl] at hpush
        rw[List.take_succ_eq_append_getElem hlt,List.map_append,List.map_cons,List.map_nil]
        exact hpush
      · exact At.grown' (HAt3.out.alloc _) hg4 (fun e=>by have:=(World.ownsRow.lt HTs.out.own _ e.symm).1;omega)
      · exact below_grown' (HB3.out.alloc (by omega) _) (by simp;omega) hg4 (fun bb hbb=>by have:=(World.ownsRow.lt HTs.out.own bb hbb).1;omega)
    · obtain rfl:j=t.parts.length:=by omega
      have hts:=HTs.out
      rw[List.take_length] at hts
      have HTs:=Lib.hid hts
      clear hts
      have HS:Hid (spansS l (k+1) t=(t.parts.map (spansS l k)).foldl (fun f g i j=>f i j||g i j) noF):=spans_4 hk HL.out
      have c0:=(At.tr_cell HAt.out).1
      rw[hk] at c0
      clear hk
      go_wp2_with fail
      refine (refBlankI n (by omega) _ (by have:=HNW.out;omega) _).mono ?_
      rintro e w2 ⟨g2,r2,rfl,hg2,hb2⟩
      have HW:=Lib.hid HB.out.size
      have HAt:=Lib.hid (HAt.out.step hb2 rfl)
      have HTs:=Lib.hid (HTs.out.next hb2)
      have HB:=Lib.hid (HB.out.trans (hb2.mono HB.out.size))
      have HT2:=Lib.hid (hg2.lower HW.out)
      clear hg2 hb2
      clear c0
      have c0:=(At.tr_cell HAt.out).1
      rw[HK.out] at c0
      have HO:Hid (Own w2 w.heap.size g2 n (((t.parts.map (spansS l k)).take 0).foldl (fun f g i j=>f i j||g i j) noF)):=Own.of HT2.out (Nat.le_refl _)
      clear HT2
      obtain ⟨A6,cap6,hv6⟩:=HTs.out.len_form
      have hlenT:=HTs.out.len
      subst hv6
      go_wp2_with fail
      go_loopw [8,86] (fun tvv x wr=>∃(j gt:Nat),j≤ts.length∧x=.int .i64 j∧tvv=.slice (some ⟨gt,0,none⟩) n n∧Hid (Own wr w.heap.size gt n (((t.parts.map (spansS l k)).take j).foldl (fun f g i j=>f i j||g i j) noF))∧Hid (TabsAt wr (w.heap.size+1) (.slice A6 ts.length cap6) n ts (t.parts.map (spansS l k)))∧Hid (Below w.heap.size w wr)) (fun _ x _=>ts.length-(intOf x).toNat)
      case atStart=>exact ⟨0,_,Nat.zero_le _,rfl,rfl,HO,HTs,HB⟩
      case round =>
        clear HO HTs HB HAt
        obtain ⟨j,gt,hj,rfl,rfl,HO,HTs,HB⟩:=hrel
        have hlenT:=HTs.out.len
        by_cases hltj:j<ts.length
        · have hltf:j<(t.parts.map (spansS l k)).length:=by omega
          obtain ⟨gr,capr,hvr,_,_⟩:=HTs.out.form (by omega)
          injection hvr with hA6 _ hcap
          subst hA6
          subst hcap
          have hc:=HTs.out.cell j hltj
          have hTj:=Lib.hid ((HTs.out.tab j hltj hltf).tin)
          have hj0:(0:Int)≤(j:Int):=by omega
          have hjn:(j:Int)<(ts.length:Int):=by omega
          go_wp2_with fail
          refine (refEither n gt ts[j].1 _ _ (by omega) _ HO.out.tin hTj.out).mono ?_
          rintro e w4 ⟨g4,r4,rfl,hT4,hb4⟩
          have HO4:Hid (Own w4 w.heap.size g4 n (((t.parts.map (spansS l k)).take (j+1)).foldl (fun f g i j=>f i j||g i j) noF)):=by
            rw[List.take_succ_eq_append_getElem hltf,List.foldl_append]
            exact Own.of hT4 HB.out.size
          have HTs4:=Lib.hid (HTs.out.next hb4)
          have HB4:=Lib.hid (HB.out.trans (hb4.mono HB.out.size))
          clear hT4 hb4 hc
          go_wp2_with fail
          exact ⟨⟨j+1,g4,by omega,by go_num,rfl,HO4,HTs4,HB4⟩,by simp[intOf];omega⟩
        · obtain rfl:j=ts.length:=by omega
          have ho:=HO.out
          rw[List.take_of_length_le (by omega)] at ho
          obtain ⟨rr,hrr⟩:=ho
          have HRR:=Lib.hid hrr
          clear hrr
          go_wp2_with fail
          go_ret
          exact ⟨gt,rr,rfl,by rw[HS.out];exact HRR.out,HB.out⟩
theorem spansAt_5 (k:Nat) (l:List Nat) (ih:SpansAt k l) (t:Tr) (A:Option Addr) (c:Nat) (w:World) (h:Tr.In w (k+1) t) (hs:slimS (k+1) t) (hf:formedS (k+1) t=true) (hw:IsBytes w A l.length l) (hl10:l.length≤10) (hk:t.kind=5) :
    Calls Tryz.prog 15 #[.agg t.cs.toArray,.slice A l.length c] w (Tabled w (l.length+1) (spansS l (k+1) t)):=by
  obtain ⟨n,hn⟩:∃n,n=l.length+1:=⟨_,rfl⟩
  obtain ⟨wl,hwl⟩:∃wl,wl=l.length:=⟨_,rfl⟩
  rw[←hn]
  have HL:Hid (n=l.length+1):=hn
  have hnw:n=wl+1:=by omega
  have hn11:n≤1000:=by omega
  have HNW:=Lib.hid hnw
  rw[←hwl] at hl10 hw ⊢
  have HWl:=Lib.hid hwl
  have HWb:=Lib.hid hw
  have HI:=Lib.hid h
  have HSl:=Lib.hid hs
  have HFo:=Lib.hid hf
  have HIH:=Lib.hid ih
  have hpn:=h.2.1.1
  have HN:=Lib.hid hpn
  have hp2000:t.parts.length≤2000:=hs.1
  have HK:=Lib.hid hk
  clear h hs hf ih hn hwl hw hnw
  obtain ⟨i0,hi0,hz0,hz1,hz2⟩:=info_parts info_table
  have HC:=Lib.hid (At.tr_cell (At.new w 27 t.cs.toArray))
  have hcell:=HC.out.2.1
  go_enter Tryz.func15,Tryz.ntmps15
  go_wp2_with fail
  go_loopw [6,21] (fun v x wr=>∃(j:Nat) (ts:List TG),j≤t.parts.length∧x=.int .i64 j∧ts.length=j∧Hid (TabsAt wr (w.heap.size+1) v n ts ((t.parts.take j).map (spansS l k)))∧Hid (At wr w.heap.size 27 t.cs.toArray)∧Hid (Below w.heap.size w wr)) (fun _ x _=>t.parts.length-(intOf x).toNat)
  case atStart=>exact ⟨0,[],Nat.zero_le _,rfl,rfl,Lib.hid (TabsAt.nil _ _ _),Lib.hid (At.new _ _ _),Lib.hid ((Below.refl _ _).alloc (Nat.le_refl _) _)⟩
  case round =>
    obtain ⟨j,ts,hj,rfl,htl,HTs,HAt,HB⟩:=hrel
    clear hcell
    by_cases hlt:j<t.parts.length
    · have hcell:=(At.tr_cell HAt.out).2.1
      obtain ⟨b,off,ha,hb,hr⟩:=HI.out.2.2.1 (by rw[HN.out];omega)
      have HR:=Lib.hid (range_below (hr j hlt) hb (Nat.le_refl _) HB.out)
      have HP:=Lib.hid (Tr.In.next (HI.out.2.2.2 j hlt) HB.out)
      have HPs:=Lib.hid (HSl.out.2 _ (List.getElem_mem hlt))
      have HPf:=Lib.hid (formed_part HFo.out hlt)
      clear hr hb
      rw[ha] at hcell
      clear ha
      have hjz:(0:Int)≤(j:Int):=by omega
      have hjn:(j:Int)<(t.parts.length:Int):=by omega
      go_wp2_with (refine wpList_load_mid rfl 27 _ rfl b (off+j*9) rfl t.parts[j].cs _ HR.out Tryz.underlying27 rfl (by rw[Tr.cs_length];kernel_rfl) ?_)
      have hih:=HIH.out t.parts[j] A c wr HP.out HPs.out HPf.out (by rw[←HWl.out];exact HWb.out.below HB.out) (by rw[←HWl.out];exact hl10)
      rw[←HWl.out,←HNW.out] at hih
      refine hih.mono ?_
      clear hih
      rintro e w3 ⟨g2,r2,rfl,hT2,hb3⟩
      have hws:=HB.out.size
      have hat1:=HAt.out.lt
      have HTs3:=Lib.hid (HTs.out.next hb3)
      have HAt3:=Lib.hid (HAt.out.step hb3 rfl)
      have HB3:=Lib.hid (HB.out.trans (hb3.mono hws))
      have HT2:=Lib.hid (hT2.lower (show w.heap.size+1≤wr.heap.size by omega))
      have hw3:=hb3.size
      have HNew:Hid (∀bb,u6.ownBlock=some bb→g2≠bb∧∀i,i<n→r2 i≠bb):=fun bb hbb=>by
        have hlt2:=(World.ownsRow.lt HTs.out.own bb hbb).2
        exact ⟨by have:=hT2.low;omega,fun i hi=>by have:=(hT2.rlow i hi).1;omega⟩
      clear hb3 hcell hT2
      go_wp2_with (first
        | (at_builtin
           refine wpList_append_lies _ rfl _ _ _ rfl (w.heap.size+1) 44 i0 _ 1 24 Tryz.underlying45 hi0 hz0 hz1 hz2 rfl (by omega) u6 _ _ rfl (HTs3.out.next ((Below.refl _ _).alloc (Nat.le_refl _) _)).own ⟨w3.heap.size,0,none⟩ 1 1 [tv n (g2,r2)] rfl rfl ?c1 ?c2 (by omega) ?c3 ?c4 ?c5 _ rfl ?_
           case c1=>exact (cell_one_new _ _ _)
           case c2=>simp[Value.oneCell',tv]
           case c3=>unfold maxLen;omega
           case c4=>omega
           case c5=>simp;omega
           intro g cap w4 hown4 hg4 hat4 hlt4))
      refine ⟨⟨j+1,ts++[(g2,r2)],by omega,by go_num,by simp[htl],Lib.hid ?_,Lib.hid ?_,Lib.hid ?_⟩,by simp[intOf];omega⟩
      · have hpush:=TabsAt.push (HTs3.out.next ((Below.refl _ _).alloc (Nat.le_refl _) _)) (HT2.out.next ((Below.refl _ _).alloc (Nat.le_refl _) _)) hown4 hg4 hat4 (Nat.le_refl _) HNew.out
        rw[htl] at hpush
        rw[List.take_succ_eq_append_getElem hlt,List.map_append,List.map_cons,List.map_nil]
        exact hpush
      · exact At.grown' (HAt3.out.alloc _) hg4 (fun e=>by have:=(World.ownsRow.lt HTs.out.own _ e.symm).1;omega)
      · exact below_grown' (HB3.out.alloc (by omega) _) (by simp;omega) hg4 (fun bb hbb=>by have:=(World.ownsRow.lt HTs.out.own bb hbb).1;omega)
    · obtain rfl:j=t.parts.length:=by omega
      have hts:=HTs.out
      rw[List.take_length] at hts
      have HTs:=Lib.hid hts
      clear hts
      have HS:Hid (spansS l (k+1) t=(t.parts.map (spansS l k)).foldl (fun f g i j=>f i j&&g i j) (otherF noF)):=spans_5 hk HL.out
      have c0:=(At.tr_cell HAt.out).1
      rw[hk] at c0
      clear hk
      go_wp2_with fail
      refine (refBlankI n (by omega) _ (by have:=HNW.out;omega) _).mono ?_
      rintro e w2 ⟨g2,r2,rfl,hg2,hb2⟩
      have HW:=Lib.hid HB.out.size
      have HAt:=Lib.hid (HAt.out.step hb2 rfl)
      have HTs:=Lib.hid (HTs.out.next hb2)
      have HB:=Lib.hid (HB.out.trans (hb2.mono HB.out.size))
      have HT2:=Lib.hid (hg2.lower HW.out)
      clear hg2 hb2
      clear c0
      have c0:=(At.tr_cell HAt.out).1
      rw[HK.out] at c0
      go_wp2_with fail
      refine (refOther n g2 noF (by omega) _ HT2.out.tin).mono ?_
      rintro e w3 ⟨g3,r3,rfl,hg3,hb3⟩
      have HW:=Lib.hid HB.out.size
      have HAt:=Lib.hid (HAt.out.step hb3 rfl)
      have HTs:=Lib.hid (HTs.out.next hb3)
      have HB:=Lib.hid (HB.out.trans (hb3.mono HB.out.size))
      have HO:Hid (Own w3 w.heap.size g3 n (((t.parts.map (spansS l k)).take 0).foldl (fun f g i j=>f i j&&g i j) (otherF noF))):=Own.of hg3 HW.out
      clear hg3 hb3 c0 HT2
      obtain ⟨A6,cap6,hv6⟩:=HTs.out.len_form
      have hlenT:=HTs.out.len
      subst hv6
      go_wp2_with fail
      go_loopw [8,102] (fun tvv x wr=>∃(j gt:Nat),j≤ts.length∧x=.int .i64 j∧tvv=.slice (some ⟨gt,0,none⟩) n n∧Hid (Own wr w.heap.size gt n (((t.parts.map (spansS l k)).take j).foldl (fun f g i j=>f i j&&g i j) (otherF noF)))∧Hid (TabsAt wr (w.heap.size+1) (.slice A6 ts.length cap6) n ts (t.parts.map (spansS l k)))∧Hid (Below w.heap.size w wr)) (fun _ x _=>ts.length-(intOf x).toNat)
      case atStart=>exact ⟨0,_,Nat.zero_le _,rfl,rfl,HO,HTs,HB⟩
      case round =>
        clear HO HTs HB HAt
        obtain ⟨j,gt,hj,rfl,rfl,HO,HTs,HB⟩:=hrel
        have hlenT:=HTs.out.len
        by_cases hltj:j<ts.length
        · have hltf:j<(t.parts.map (spansS l k)).length:=by omega
          obtain ⟨gr,capr,hvr,_,_⟩:=HTs.out.form (by omega)
          injection hvr with hA6 _ hcap
          subst hA6
          subst hcap
          have hc:=HTs.out.cell j hltj
          have hTj:=Lib.hid ((HTs.out.tab j hltj hltf).tin)
          have hj0:(0:Int)≤(j:Int):=by omega
          have hjn:(j:Int)<(ts.length:Int):=by omega
          go_wp2_with fail
          refine (refBoth n gt ts[j].1 _ _ (by omega) _ HO.out.tin hTj.out).mono ?_
          rintro e w4 ⟨g4,r4,rfl,hT4,hb4⟩
          have HO4:Hid (Own w4 w.heap.size g4 n (((t.parts.map (spansS l k)).take (j+1)).foldl (fun f g i j=>f i j&&g i j) (otherF noF))):=by
            rw[List.take_succ_eq_append_getElem hltf,List.foldl_append]
            exact Own.of hT4 HB.out.size
          have HTs4:=Lib.hid (HTs.out.next hb4)
          have HB4:=Lib.hid (HB.out.trans (hb4.mono HB.out.size))
          clear hT4 hb4 hc
          go_wp2_with fail
          exact ⟨⟨j+1,g4,by omega,by go_num,rfl,HO4,HTs4,HB4⟩,by simp[intOf];omega⟩
        · obtain rfl:j=ts.length:=by omega
          have ho:=HO.out
          rw[List.take_of_length_le (by omega)] at ho
          obtain ⟨rr,hrr⟩:=ho
          have HRR:=Lib.hid hrr
          clear hrr
          go_wp2_with fail
          go_ret
          exact ⟨gt,rr,rfl,by rw[HS.out];exact HRR.out,HB.out⟩
theorem spansAt_6 (k:Nat) (l:List Nat) (ih:SpansAt k l) (t:Tr) (A:Option Addr) (c:Nat) (w:World) (h:Tr.In w (k+1) t) (hs:slimS (k+1) t) (hf:formedS (k+1) t=true) (hw:IsBytes w A l.length l) (hl10:l.length≤10) (hk:t.kind=6) :
    Calls Tryz.prog 15 #[.agg t.cs.toArray,.slice A l.length c] w (Tabled w (l.length+1) (spansS l (k+1) t)):=by
  obtain ⟨n,hn⟩:∃n,n=l.length+1:=⟨_,rfl⟩
  obtain ⟨wl,hwl⟩:∃wl,wl=l.length:=⟨_,rfl⟩
  rw[←hn]
  have HL:Hid (n=l.length+1):=hn
  have hnw:n=wl+1:=by omega
  have hn11:n≤1000:=by omega
  have HNW:=Lib.hid hnw
  rw[←hwl] at hl10 hw ⊢
  have HWl:=Lib.hid hwl
  have HWb:=Lib.hid hw
  have HI:=Lib.hid h
  have HSl:=Lib.hid hs
  have HFo:=Lib.hid hf
  have HIH:=Lib.hid ih
  have hpn:=h.2.1.1
  have HN:=Lib.hid hpn
  have hp2000:t.parts.length≤2000:=hs.1
  have HK:=Lib.hid hk
  clear h hs hf ih hn hwl hw hnw
  obtain ⟨i0,hi0,hz0,hz1,hz2⟩:=info_parts info_table
  have HC:=Lib.hid (At.tr_cell (At.new w 27 t.cs.toArray))
  have hcell:=HC.out.2.1
  go_enter Tryz.func15,Tryz.ntmps15
  go_wp2_with fail
  go_loopw [6,21] (fun v x wr=>∃(j:Nat) (ts:List TG),j≤t.parts.length∧x=.int .i64 j∧ts.length=j∧Hid (TabsAt wr (w.heap.size+1) v n ts ((t.parts.take j).map (spansS l k)))∧Hid (At wr w.heap.size 27 t.cs.toArray)∧Hid (Below w.heap.size w wr)) (fun _ x _=>t.parts.length-(intOf x).toNat)
  case atStart=>exact ⟨0,[],Nat.zero_le _,rfl,rfl,Lib.hid (TabsAt.nil _ _ _),Lib.hid (At.new _ _ _),Lib.hid ((Below.refl _ _).alloc (Nat.le_refl _) _)⟩
  case round =>
    obtain ⟨j,ts,hj,rfl,htl,HTs,HAt,HB⟩:=hrel
    clear hcell
    by_cases hlt:j<t.parts.length
    · have hcell:=(At.tr_cell HAt.out).2.1
      obtain ⟨b,off,ha,hb,hr⟩:=HI.out.2.2.1 (by rw[HN.out];omega)
      have HR:=Lib.hid (range_below (hr j hlt) hb (Nat.le_refl _) HB.out)
      have HP:=Lib.hid (Tr.In.next (HI.out.2.2.2 j hlt) HB.out)
      have HPs:=Lib.hid (HSl.out.2 _ (List.getElem_mem hlt))
      have HPf:=Lib.hid (formed_part HFo.out hlt)
      clear hr hb
      rw[ha] at hcell
      clear ha
      have hjz:(0:Int)≤(j:Int):=by omega
      have hjn:(j:Int)<(t.parts.length:Int):=by omega
      go_wp2_with (refine wpList_load_mid rfl 27 _ rfl b (off+j*9) rfl t.parts[j].cs _ HR.out Tryz.underlying27 rfl (by rw[Tr.cs_length];kernel_rfl) ?_)
      have hih:=HIH.out t.parts[j] A c wr HP.out HPs.out HPf.out (by rw[←HWl.out];exact HWb.out.below HB.out) (by rw[←HWl.out];exact hl10)
      rw[←HWl.out,←HNW.out] at hih
      refine hih.mono ?_
      clear hih
      rintro e w3 ⟨g2,r2,rfl,hT2,hb3⟩
      have hws:=HB.out.size
      have hat1:=HAt.out.lt
      have HTs3:=Lib.hid (HTs.out.next hb3)
      have HAt3:=Lib.hid (HAt.out.step hb3 rfl)
      have HB3:=Lib.hid (HB.out.trans (hb3.mono hws))
      have HT2:=Lib.hid (hT2.lower (show w.heap.size+1≤wr.heap.size by omega))
      have hw3:=hb3.size
      have HNew:Hid (∀bb,u6.ownBlock=some bb→g2≠bb∧∀i,i<n→r2 i≠bb):=fun bb hbb=>by
        have hlt2:=(World.ownsRow.lt HTs.out.own bb hbb).2
        exact ⟨by have:=hT2.low;omega,fun i hi=>by have:=(hT2.rlow i hi).1;omega⟩
      clear hb3 hcell hT2
      go_wp2_with (first
        | (at_builtin
           refine wpList_append_lies _ rfl _ _ _ rfl (w.heap.size+1) 44 i0 _ 1 24 Tryz.underlying45 hi0 hz0 hz1 hz2 rfl (by omega) u6 _ _ rfl (HTs3.out.next ((Below.refl _ _).alloc (Nat.le_refl _) _)).own ⟨w3.heap.size,0,none⟩ 1 1 [tv n (g2,r2)] rfl rfl ?c1 ?c2 (by omega) ?c3 ?c4 ?c5 _ rfl ?_
           case c1=>exact (cell_one_new _ _ _)
           case c2=>simp[Value.oneCell',tv]
           case c3=>unfold maxLen;omega
           case c4=>omega
           case c5=>simp;omega
           intro g cap w4 hown4 hg4 hat4 hlt4))
      refine ⟨⟨j+1,ts++[(g2,r2)],by omega,by go_num,by simp[htl],Lib.hid ?_,Lib.hid ?_,Lib.hid ?_⟩,by simp[intOf];omega⟩
      · have hpush:=TabsAt.push (HTs3.out.next ((Below.refl _ _).alloc (Nat.le_refl _) _)) (HT2.out.next ((Below.refl _ _).alloc (Nat.le_refl _) _)) hown4 hg4 hat4 (Nat.le_refl _) HNew.out
        rw[htl] at hpush
        rw[List.take_succ_eq_append_getElem hlt,List.map_append,List.map_cons,List.map_nil]
        exact hpush
      · exact At.grown' (HAt3.out.alloc _) hg4 (fun e=>by have:=(World.ownsRow.lt HTs.out.own _ e.symm).1;omega)
      · exact below_grown' (HB3.out.alloc (by omega) _) (by simp;omega) hg4 (fun bb hbb=>by have:=(World.ownsRow.lt HTs.out.own bb hbb).1;omega)
    · obtain rfl:j=t.parts.length:=by omega
      have hts:=HTs.out
      rw[List.take_length] at hts
      have HTs:=Lib.hid hts
      clear hts
      have HS:Hid (spansS l (k+1) t=otherF ((t.parts.map (spansS l k)).headD noF)):=spans_6 hk HL.out
      have c0:=(At.tr_cell HAt.out).1
      rw[hk] at c0
      clear hk
      go_wp2_with fail
      refine (refBlankI n (by omega) _ (by have:=HNW.out;omega) _).mono ?_
      rintro e w2 ⟨g2,r2,rfl,hg2,hb2⟩
      have HW:=Lib.hid HB.out.size
      have HAt:=Lib.hid (HAt.out.step hb2 rfl)
      have HTs:=Lib.hid (HTs.out.next hb2)
      have HB:=Lib.hid (HB.out.trans (hb2.mono HB.out.size))
      have HT2:=Lib.hid (hg2.lower HW.out)
      clear hg2 hb2
      clear c0
      have c0:=(At.tr_cell HAt.out).1
      rw[HK.out] at c0
      go_wp2_with fail
      have h1:t.parts.length=1:=formed_one HFo.out (by rw[HK.out];decide)
      have hlenT:=HTs.out.len
      rw[List.length_map,h1] at hlenT
      have htl1:ts.length=1:=hlenT
      obtain ⟨A6,cap6,hv6⟩:=HTs.out.len_form
      subst hv6
      obtain ⟨gr,capr,hvr,_,_⟩:=HTs.out.form (by omega)
      injection hvr with hA6 _ hcap
      subst hA6
      subst hcap
      have hjn:(0:Int)<(ts.length:Int):=by omega
      have hc:=HTs.out.cell 0 (by omega)
      obtain ⟨F,hF⟩:∃F,F=(t.parts.map (spansS l k))[0]'(by rw[List.length_map,h1];omega):=⟨_,rfl⟩
      have hhd:Hid ((t.parts.map (spansS l k)).headD noF=F):=Lib.hid (by rw[hF];exact headD_get _ (by rw[List.length_map,h1];omega))
      have HT0:=HTs.out.tab 0 (by omega) (by rw[List.length_map,h1];omega)
      obtain ⟨p0,hp0⟩:∃p0:TG,p0=ts[0]'(by omega):=⟨_,rfl⟩
      rw[←hF,←hp0] at HT0
      rw[←hp0] at hc
      have hTj:=Lib.hid HT0.tin
      have HTj:=Lib.hid HT0.drew
      clear HT0 hF hp0 h1 hlenT htl1 hpn htl
      clear c0 HT2
      go_wp2_with fail
      refine (refOther n p0.1 _ (by omega) _ hTj.out).mono ?_
      rintro e w3 ⟨g3,r3,rfl,hg3,hb3⟩
      have HW:=Lib.hid HB.out.size
      have HAt:=Lib.hid (HAt.out.step hb3 rfl)
      have HTs:=Lib.hid (HTs.out.next hb3)
      have HB:=Lib.hid (HB.out.trans (hb3.mono HB.out.size))
      have HT2:=Lib.hid (hg3.lower HW.out)
      clear hg3 hb3 hc hTj
      go_wp2_with fail
      go_ret
      exact ⟨g3,r3,rfl,by rw[HS.out,hhd.out];exact HT2.out,HB.out⟩
theorem spansAt_7 (k:Nat) (l:List Nat) (ih:SpansAt k l) (t:Tr) (A:Option Addr) (c:Nat) (w:World) (h:Tr.In w (k+1) t) (hs:slimS (k+1) t) (hf:formedS (k+1) t=true) (hw:IsBytes w A l.length l) (hl10:l.length≤10) (hk:t.kind=7) :
    Calls Tryz.prog 15 #[.agg t.cs.toArray,.slice A l.length c] w (Tabled w (l.length+1) (spansS l (k+1) t)):=by
  obtain ⟨n,hn⟩:∃n,n=l.length+1:=⟨_,rfl⟩
  obtain ⟨wl,hwl⟩:∃wl,wl=l.length:=⟨_,rfl⟩
  rw[←hn]
  have HL:Hid (n=l.length+1):=hn
  have hnw:n=wl+1:=by omega
  have hn11:n≤1000:=by omega
  have HNW:=Lib.hid hnw
  rw[←hwl] at hl10 hw ⊢
  have HWl:=Lib.hid hwl
  have HWb:=Lib.hid hw
  have HI:=Lib.hid h
  have HSl:=Lib.hid hs
  have HFo:=Lib.hid hf
  have HIH:=Lib.hid ih
  have hpn:=h.2.1.1
  have HN:=Lib.hid hpn
  have hp2000:t.parts.length≤2000:=hs.1
  have HK:=Lib.hid hk
  clear h hs hf ih hn hwl hw hnw
  obtain ⟨i0,hi0,hz0,hz1,hz2⟩:=info_parts info_table
  have HC:=Lib.hid (At.tr_cell (At.new w 27 t.cs.toArray))
  have hcell:=HC.out.2.1
  go_enter Tryz.func15,Tryz.ntmps15
  go_wp2_with fail
  go_loopw [6,21] (fun v x wr=>∃(j:Nat) (ts:List TG),j≤t.parts.length∧x=.int .i64 j∧ts.length=j∧Hid (TabsAt wr (w.heap.size+1) v n ts ((t.parts.take j).map (spansS l k)))∧Hid (At wr w.heap.size 27 t.cs.toArray)∧Hid (Below w.heap.size w wr)) (fun _ x _=>t.parts.length-(intOf x).toNat)
  case atStart=>exact ⟨0,[],Nat.zero_le _,rfl,rfl,Lib.hid (TabsAt.nil _ _ _),Lib.hid (At.new _ _ _),Lib.hid ((Below.refl _ _).alloc (Nat.le_refl _) _)⟩
  case round =>
    obtain ⟨j,ts,hj,rfl,htl,HTs,HAt,HB⟩:=hrel
    clear hcell
    by_cases hlt:j<t.parts.length
    · have hcell:=(At.tr_cell HAt.out).2.1
      obtain ⟨b,off,ha,hb,hr⟩:=HI.out.2.2.1 (by rw[HN.out];omega)
      have HR:=Lib.hid (range_below (hr j hlt) hb (Nat.le_refl _) HB.out)
      have HP:=Lib.hid (Tr.In.next (HI.out.2.2.2 j hlt) HB.out)
      have HPs:=Lib.hid (HSl.out.2 _ (List.getElem_mem hlt))
      have HPf:=Lib.hid (formed_part HFo.out hlt)
      clear hr hb
      rw[ha] at hcell
      clear ha
      have hjz:(0:Int)≤(j:Int):=by omega
      have hjn:(j:Int)<(t.parts.length:Int):=by omega
      go_wp2_with (refine wpList_load_mid rfl 27 _ rfl b (off+j*9) rfl t.parts[j].cs _ HR.out Tryz.underlying27 rfl (by rw[Tr.cs_length];kernel_rfl) ?_)
      have hih:=HIH.out t.parts[j] A c wr HP.out HPs.out HPf.out (by rw[←HWl.out];exact HWb.out.below HB.out) (by rw[←HWl.out];exact hl10)
      rw[←HWl.out,←HNW.out] at hih
      refine hih.mono ?_
      clear hih
      rintro e w3 ⟨g2,r2,rfl,hT2,hb3⟩
      have hws:=HB.out.size
      have hat1:=HAt.out.lt
      have HTs3:=Lib.hid (HTs.out.next hb3)
      have HAt3:=Lib.hid (HAt.out.step hb3 rfl)
      have HB3:=Lib.hid (HB.out.trans (hb3.mono hws))
      have HT2:=Lib.hid (hT2.lower (show w.heap.size+1≤wr.heap.size by omega))
      have hw3:=hb3.size
      have HNew:Hid (∀bb,u6.ownBlock=some bb→g2≠bb∧∀i,i<n→r2 i≠bb):=fun bb hbb=>by
        have hlt2:=(World.ownsRow.lt HTs.out.own bb hbb).2
        exact ⟨by have:=hT2.low;omega,fun i hi=>by have:=(hT2.rlow i hi).1;omega⟩
      clear hb3 hcell hT2
      go_wp2_with (first
        | (at_builtin
           refine wpList_append_lies _ rfl _ _ _ rfl (w.heap.size+1) 44 i0 _ 1 24 Tryz.underlying45 hi0 hz0 hz1 hz2 rfl (by omega) u6 _ _ rfl (HTs3.out.next ((Below.refl _ _).alloc (Nat.le_refl _) _)).own ⟨w3.heap.size,0,none⟩ 1 1 [tv n (g2,r2)] rfl rfl ?c1 ?c2 (by omega) ?c3 ?c4 ?c5 _ rfl ?_
           case c1=>exact (cell_one_new _ _ _)
           case c2=>simp[Value.oneCell',tv]
           case c3=>unfold maxLen;omega
           case c4=>omega
           case c5=>simp;omega
           intro g cap w4 hown4 hg4 hat4 hlt4))
      refine ⟨⟨j+1,ts++[(g2,r2)],by omega,by go_num,by simp[htl],Lib.hid ?_,Lib.hid ?_,Lib.hid ?_⟩,by simp[intOf];omega⟩
      · have hpush:=TabsAt.push (HTs3.out.next ((Below.refl _ _).alloc (Nat.le_refl _) _)) (HT2.out.next ((Below.refl _ _).alloc (Nat.le_refl _) _)) hown4 hg4 hat4 (Nat.le_refl _) HNew.out
        rw[htl] at hpush
        rw[List.take_succ_eq_append_getElem hlt,List.map_append,List.map_cons,List.map_nil]
        exact hpush
      · exact At.grown' (HAt3.out.alloc _) hg4 (fun e=>by have:=(World.ownsRow.lt HTs.out.own _ e.symm).1;omega)
      · exact below_grown' (HB3.out.alloc (by omega) _) (by simp;omega) hg4 (fun bb hbb=>by have:=(World.ownsRow.lt HTs.out.own bb hbb).1;omega)
    · obtain rfl:j=t.parts.length:=by omega
      have hts:=HTs.out
      rw[List.take_length] at hts
      have HTs:=Lib.hid hts
      clear hts
      have HS:Hid (spansS l (k+1) t=timesT ((t.parts.map (spansS l k)).headD noF) n t.lo.toNat t.hi):=spans_7 hk HL.out
      have c0:=(At.tr_cell HAt.out).1
      rw[hk] at c0
      clear hk
      go_wp2_with fail
      refine (refBlankI n (by omega) _ (by have:=HNW.out;omega) _).mono ?_
      rintro e w2 ⟨g2,r2,rfl,hg2,hb2⟩
      have HW:=Lib.hid HB.out.size
      have HAt:=Lib.hid (HAt.out.step hb2 rfl)
      have HTs:=Lib.hid (HTs.out.next hb2)
      have HB:=Lib.hid (HB.out.trans (hb2.mono HB.out.size))
      have HT2:=Lib.hid (hg2.lower HW.out)
      clear hg2 hb2
      clear c0
      have c0:=(At.tr_cell HAt.out).1
      rw[HK.out] at c0
      go_wp2_with fail
      have h1:t.parts.length=1:=formed_one HFo.out (by rw[HK.out];decide)
      have hlenT:=HTs.out.len
      rw[List.length_map,h1] at hlenT
      have htl1:ts.length=1:=hlenT
      obtain ⟨A6,cap6,hv6⟩:=HTs.out.len_form
      subst hv6
      obtain ⟨gr,capr,hvr,_,_⟩:=HTs.out.form (by omega)
      injection hvr with hA6 _ hcap
      subst hA6
      subst hcap
      have hjn:(0:Int)<(ts.length:Int):=by omega
      have hc:=HTs.out.cell 0 (by omega)
      obtain ⟨F,hF⟩:∃F,F=(t.parts.map (spansS l k))[0]'(by rw[List.length_map,h1];omega):=⟨_,rfl⟩
      have hhd:Hid ((t.parts.map (spansS l k)).headD noF=F):=Lib.hid (by rw[hF];exact headD_get _ (by rw[List.length_map,h1];omega))
      have HT0:=HTs.out.tab 0 (by omega) (by rw[List.length_map,h1];omega)
      obtain ⟨p0,hp0⟩:∃p0:TG,p0=ts[0]'(by omega):=⟨_,rfl⟩
      rw[←hF,←hp0] at HT0
      rw[←hp0] at hc
      have hTj:=Lib.hid HT0.tin
      have HTj:=Lib.hid HT0.drew
      clear HT0 hF hp0 h1 hlenT htl1 hpn htl
      have htf:=formed_times HFo.out HK.out
      unfold timesF at htf
      obtain ⟨l0,hl0⟩:∃l0:Nat,t.lo=(l0:Int):=⟨t.lo.toNat,by omega⟩
      have hl0n:Hid (t.lo.toNat=l0):=Lib.hid (by omega)
      have Hl0:=Lib.hid hl0
      have Hhi:=Lib.hid htf
      clear htf hl0
      have hcall:∀w1:World,TIn w1 p0.1 n F→Calls Tryz.prog 32 #[.agg #[.int .i64 t.kind,.int .u64 t.set.w0,.int .u64 t.set.w1,.int .u64 t.set.w2,.int .u64 t.set.w3,.slice t.addr t.n t.cap,.int .i64 t.lo,.int .i64 t.hi,.bool t.neg],.slice (some ⟨p0.1,0,none⟩) n n] w1 (Tabled w1 n (timesT F n l0 t.hi)):=fun w1 h=>refTimes n p0.1 l0 _ t (by omega) Hl0.out (by have:=Hhi.out;have:=Hl0.out;omega) (by have:=Hhi.out;omega) w1 h
      have HBd:=Lib.hid (Below.drew HB.out)
      have hws:=HBd.out.size
      go_wp2_with fail
      clear c0
      obtain ⟨c0,c1,c2,c3,c4,c5,c6,c7,c8⟩:=At.tr_cells HAt.out
      go_region_with (first
        | (go_at_call 32;(with_reducible refine (hcall _ ?_).mono ?_);exact HTj.out.tin;rintro e w3 ⟨g3,r3,rfl,hg3,hb3⟩;have HB3:=Lib.hid (HBd.out.trans (hb3.mono hws));have HT3:=Lib.hid (hg3.lower hws)))
      all_goals go_wp2_with fail
      all_goals go_ret
      all_goals exact ⟨g3,r3,rfl,by rw[HS.out,hhd.out];rw[hl0n.out];exact HT3.out,HB3.out⟩
theorem spansAt_8 (k:Nat) (l:List Nat) (ih:SpansAt k l) (t:Tr) (A:Option Addr) (c:Nat) (w:World) (h:Tr.In w (k+1) t) (hs:slimS (k+1) t) (hf:formedS (k+1) t=true) (hw:IsBytes w A l.length l) (hl10:l.length≤10) (hk:t.kind=8) :
    Calls Tryz.prog 15 #[.agg t.cs.toArray,.slice A l.length c] w (Tabled w (l.length+1) (spansS l (k+1) t)):=by
  obtain ⟨n,hn⟩:∃n,n=l.length+1:=⟨_,rfl⟩
  obtain ⟨wl,hwl⟩:∃wl,wl=l.length:=⟨_,rfl⟩
  rw[←hn]
  have HL:Hid (n=l.length+1):=hn
  have hnw:n=wl+1:=by omega
  have hn11:n≤1000:=by omega
  have HNW:=Lib.hid hnw
  rw[←hwl] at hl10 hw ⊢
  have HWl:=Lib.hid hwl
  have HWb:=Lib.hid hw
  have HI:=Lib.hid h
  have HSl:=Lib.hid hs
  have HFo:=Lib.hid hf
  have HIH:=Lib.hid ih
  have hpn:=h.2.1.1
  have HN:=Lib.hid hpn
  have hp2000:t.parts.length≤2000:=hs.1
  have HK:=Lib.hid hk
  clear h hs hf ih hn hwl hw hnw
  obtain ⟨i0,hi0,hz0,hz1,hz2⟩:=info_parts info_table
  have HC:=Lib.hid (At.tr_cell (At.new w 27 t.cs.toArray))
  have hcell:=HC.out.2.1
  go_enter Tryz.func15,Tryz.ntmps15
  go_wp2_with fail
  go_loopw [6,21] (fun v x wr=>∃(j:Nat) (ts:List TG),j≤t.parts.length∧x=.int .i64 j∧ts.length=j∧Hid (TabsAt wr (w.heap.size+1) v n ts ((t.parts.take j).map (spansS l k)))∧Hid (At wr w.heap.size 27 t.cs.toArray)∧Hid (Below w.heap.size w wr)) (fun _ x _=>t.parts.length-(intOf x).toNat)
  case atStart=>exact ⟨0,[],Nat.zero_le _,rfl,rfl,Lib.hid (TabsAt.nil _ _ _),Lib.hid (At.new _ _ _),Lib.hid ((Below.refl _ _).alloc (Nat.le_refl _) _)⟩
  case round =>
    obtain ⟨j,ts,hj,rfl,htl,HTs,HAt,HB⟩:=hrel
    clear hcell
    by_cases hlt:j<t.parts.length
    · have hcell:=(At.tr_cell HAt.out).2.1
      obtain ⟨b,off,ha,hb,hr⟩:=HI.out.2.2.1 (by rw[HN.out];omega)
      have HR:=Lib.hid (range_below (hr j hlt) hb (Nat.le_refl _) HB.out)
      have HP:=Lib.hid (Tr.In.next (HI.out.2.2.2 j hlt) HB.out)
      have HPs:=Lib.hid (HSl.out.2 _ (List.getElem_mem hlt))
      have HPf:=Lib.hid (formed_part HFo.out hlt)
      clear hr hb
      rw[ha] at hcell
      clear ha
      have hjz:(0:Int)≤(j:Int):=by omega
      have hjn:(j:Int)<(t.parts.length:Int):=by omega
      go_wp2_with (refine wpList_load_mid rfl 27 _ rfl b (off+j*9) rfl t.parts[j].cs _ HR.out Tryz.underlying27 rfl (by rw[Tr.cs_length];kernel_rfl) ?_)
      have hih:=HIH.out t.parts[j] A c wr HP.out HPs.out HPf.out (by rw[←HWl.out];exact HWb.out.below HB.out) (by rw[←HWl.out];exact hl10)
      rw[←HWl.out,←HNW.out] at hih
      refine hih.mono ?_
      clear hih
      rintro e w3 ⟨g2,r2,rfl,hT2,hb3⟩
      have hws:=HB.out.size
      have hat1:=HAt.out.lt
      have HTs3:=Lib.hid (HTs.out.next hb3)
      have HAt3:=Lib.hid (HAt.out.step hb3 rfl)
      have HB3:=Lib.hid (HB.out.trans (hb3.mono hws))
      have HT2:=Lib.hid (hT2.lower (show w.heap.size+1≤wr.heap.size by omega))
      have hw3:=hb3.size
      have HNew:Hid (∀bb,u6.ownBlock=some bb→g2≠bb∧∀i,i<n→r2 i≠bb):=fun bb hbb=>by
        have hlt2:=(World.ownsRow.lt HTs.out.own bb hbb).2
        exact ⟨by have:=hT2.low;omega,fun i hi=>by have:=(hT2.rlow i hi).1;omega⟩
      clear hb3 hcell hT2
      go_wp2_with (first
        | (at_builtin
           refine wpList_append_lies _ rfl _ _ _ rfl (w.heap.size+1) 44 i0 _ 1 24 Tryz.underlying45 hi0 hz0 hz1 hz2 rfl (by omega) u6 _ _ rfl (HTs3.out.next ((Below.refl _ _).alloc (Nat.le_refl _) _)).own ⟨w3.heap.size,0,none⟩ 1 1 [tv n (g2,r2)] rfl rfl ?c1 ?c2 (by omega) ?c3 ?c4 ?c5 _ rfl ?_
           case c1=>exact (cell_one_new _ _ _)
           case c2=>simp[Value.oneCell',tv]
           case c3=>unfold maxLen;omega
           case c4=>omega
           case c5=>simp;omega
           intro g cap w4 hown4 hg4 hat4 hlt4))
      refine ⟨⟨j+1,ts++[(g2,r2)],by omega,by go_num,by simp[htl],Lib.hid ?_,Lib.hid ?_,Lib.hid ?_⟩,by simp[intOf];omega⟩
      · have hpush:=TabsAt.push (HTs3.out.next ((Below.refl _ _).alloc (Nat.le_refl _) _)) (HT2.out.next ((Below.refl _ _).alloc (Nat.le_refl _) _)) hown4 hg4 hat4 (Nat.le_refl _) HNew.out
        rw[htl] at hpush
        rw[List.take_succ_eq_append_getElem hlt,List.map_append,List.map_cons,List.map_nil]
        exact hpush
      · exact At.grown' (HAt3.out.alloc _) hg4 (fun e=>by have:=(World.ownsRow.lt HTs.out.own _ e.symm).1;omega)
      · exact below_grown' (HB3.out.alloc (by omega) _) (by simp;omega) hg4 (fun bb hbb=>by have:=(World.ownsRow.lt HTs.out.own bb hbb).1;omega)
    · obtain rfl:j=t.parts.length:=by omega
      have hts:=HTs.out
      rw[List.take_length] at hts
      have HTs:=Lib.hid hts
      clear hts
      have HS:Hid (spansS l (k+1) t=lookF ((t.parts.map (spansS l k)).headD noF) n false t.neg):=spans_8 hk HL.out
      have c0:=(At.tr_cell HAt.out).1
      rw[hk] at c0
      clear hk
      go_wp2_with fail
      refine (refBlankI n (by omega) _ (by have:=HNW.out;omega) _).mono ?_
      rintro e w2 ⟨g2,r2,rfl,hg2,hb2⟩
      have HW:=Lib.hid HB.out.size
      have HAt:=Lib.hid (HAt.out.step hb2 rfl)
      have HTs:=Lib.hid (HTs.out.next hb2)
      have HB:=Lib.hid (HB.out.trans (hb2.mono HB.out.size))
      have HT2:=Lib.hid (hg2.lower HW.out)
      clear hg2 hb2
      clear c0
      have c0:=(At.tr_cell HAt.out).1
      rw[HK.out] at c0
      go_wp2_with fail
      have h1:t.parts.length=1:=formed_one HFo.out (by rw[HK.out];decide)
      have hlenT:=HTs.out.len
      rw[List.length_map,h1] at hlenT
      have htl1:ts.length=1:=hlenT
      obtain ⟨A6,cap6,hv6⟩:=HTs.out.len_form
      subst hv6
      obtain ⟨gr,capr,hvr,_,_⟩:=HTs.out.form (by omega)
      injection hvr with hA6 _ hcap
      subst hA6
      subst hcap
      have hjn:(0:Int)<(ts.length:Int):=by omega
      have hc:=HTs.out.cell 0 (by omega)
      obtain ⟨F,hF⟩:∃F,F=(t.parts.map (spansS l k))[0]'(by rw[List.length_map,h1];omega):=⟨_,rfl⟩
      have hhd:Hid ((t.parts.map (spansS l k)).headD noF=F):=Lib.hid (by rw[hF];exact headD_get _ (by rw[List.length_map,h1];omega))
      have HT0:=HTs.out.tab 0 (by omega) (by rw[List.length_map,h1];omega)
      obtain ⟨p0,hp0⟩:∃p0:TG,p0=ts[0]'(by omega):=⟨_,rfl⟩
      rw[←hF,←hp0] at HT0
      rw[←hp0] at hc
      have hTj:=Lib.hid HT0.tin
      have HTj:=Lib.hid HT0.drew
      clear HT0 hF hp0 h1 hlenT htl1 hpn htl
      have hcall:∀w1:World,TIn w1 p0.1 n F→Calls Tryz.prog 33 #[.agg #[.int .i64 t.kind,.int .u64 t.set.w0,.int .u64 t.set.w1,.int .u64 t.set.w2,.int .u64 t.set.w3,.slice t.addr t.n t.cap,.int .i64 t.lo,.int .i64 t.hi,.bool t.neg],.slice (some ⟨p0.1,0,none⟩) n n] w1 (Tabled w1 n (lookF F n false t.neg)):=fun w1 h=>refLook8 n p0.1 _ t (by omega) HK.out w1 h
      have HBd:=Lib.hid (Below.drew HB.out)
      have hws:=HBd.out.size
      go_wp2_with fail
      clear c0
      obtain ⟨c0,c1,c2,c3,c4,c5,c6,c7,c8⟩:=At.tr_cells HAt.out
      go_region_with (first
        | (go_at_call 33;(with_reducible refine (hcall _ ?_).mono ?_);exact HTj.out.tin;rintro e w3 ⟨g3,r3,rfl,hg3,hb3⟩;have HB3:=Lib.hid (HBd.out.trans (hb3.mono hws));have HT3:=Lib.hid (hg3.lower hws)))
      all_goals go_wp2_with fail
      all_goals go_ret
      all_goals exact ⟨g3,r3,rfl,by rw[HS.out,hhd.out];exact HT3.out,HB3.out⟩
theorem spansAt_9 (k:Nat) (l:List Nat) (ih:SpansAt k l) (t:Tr) (A:Option Addr) (c:Nat) (w:World) (h:Tr.In w (k+1) t) (hs:slimS (k+1) t) (hf:formedS (k+1) t=true) (hw:IsBytes w A l.length l) (hl10:l.length≤10) (hk:t.kind=9) :
    Calls Tryz.prog 15 #[.agg t.cs.toArray,.slice A l.length c] w (Tabled w (l.length+1) (spansS l (k+1) t)):=by
  obtain ⟨n,hn⟩:∃n,n=l.length+1:=⟨_,rfl⟩
  obtain ⟨wl,hwl⟩:∃wl,wl=l.length:=⟨_,rfl⟩
  rw[←hn]
  have HL:Hid (n=l.length+1):=hn
  have hnw:n=wl+1:=by omega
  have hn11:n≤1000:=by omega
  have HNW:=Lib.hid hnw
  rw[←hwl] at hl10 hw ⊢
  have HWl:=Lib.hid hwl
  have HWb:=Lib.hid hw
  have HI:=Lib.hid h
  have HSl:=Lib.hid hs
  have HFo:=Lib.hid hf
  have HIH:=Lib.hid ih
  have hpn:=h.2.1.1
  have HN:=Lib.hid hpn
  have hp2000:t.parts.length≤2000:=hs.1
  have HK:=Lib.hid hk
  clear h hs hf ih hn hwl hw hnw
  obtain ⟨i0,hi0,hz0,hz1,hz2⟩:=info_parts info_table
  have HC:=Lib.hid (At.tr_cell (At.new w 27 t.cs.toArray))
  have hcell:=HC.out.2.1
  go_enter Tryz.func15,Tryz.ntmps15
  go_wp2_with fail
  go_loopw [6,21] (fun v x wr=>∃(j:Nat) (ts:List TG),j≤t.parts.length∧x=.int .i64 j∧ts.length=j∧Hid (TabsAt wr (w.heap.size+1) v n ts ((t.parts.take j).map (spansS l k)))∧Hid (At wr w.heap.size 27 t.cs.toArray)∧Hid (Below w.heap.size w wr)) (fun _ x _=>t.parts.length-(intOf x).toNat)
  case atStart=>exact ⟨0,[],Nat.zero_le _,rfl,rfl,Lib.hid (TabsAt.nil _ _ _),Lib.hid (At.new _ _ _),Lib.hid ((Below.refl _ _).alloc (Nat.le_refl _) _)⟩
  case round =>
    obtain ⟨j,ts,hj,rfl,htl,HTs,HAt,HB⟩:=hrel
    clear hcell
    by_cases hlt:j<t.parts.length
    · have hcell:=(At.tr_cell HAt.out).2.1
      obtain ⟨b,off,ha,hb,hr⟩:=HI.out.2.2.1 (by rw[HN.out];omega)
      have HR:=Lib.hid (range_below (hr j hlt) hb (Nat.le_refl _) HB.out)
      have HP:=Lib.hid (Tr.In.next (HI.out.2.2.2 j hlt) HB.out)
      have HPs:=Lib.hid (HSl.out.2 _ (List.getElem_mem hlt))
      have HPf:=Lib.hid (formed_part HFo.out hlt)
      clear hr hb
      rw[ha] at hcell
      clear ha
      have hjz:(0:Int)≤(j:Int):=by omega
      have hjn:(j:Int)<(t.parts.length:Int):=by omega
      go_wp2_with (refine wpList_load_mid rfl 27 _ rfl b (off+j*9) rfl t.parts[j].cs _ HR.out Tryz.underlying27 rfl (by rw[Tr.cs_length];kernel_rfl) ?_)
      have hih:=HIH.out t.parts[j] A c wr HP.out HPs.out HPf.out (by rw[←HWl.out];exact HWb.out.below HB.out) (by rw[←HWl.out];exact hl10)
      rw[←HWl.out,←HNW.out] at hih
      refine hih.mono ?_
      clear hih
      rintro e w3 ⟨g2,r2,rfl,hT2,hb3⟩
      have hws:=HB.out.size
      have hat1:=HAt.out.lt
      have HTs3:=Lib.hid (HTs.out.next hb3)
      have HAt3:=Lib.hid (HAt.out.step hb3 rfl)
      have HB3:=Lib.hid (HB.out.trans (hb3.mono hws))
      have HT2:=Lib.hid (hT2.lower (show w.heap.size+1≤wr.heap.size by omega))
      have hw3:=hb3.size
      have HNew:Hid (∀bb,u6.ownBlock=some bb→g2≠bb∧∀i,i<n→r2 i≠bb):=fun bb hbb=>by
        have hlt2:=(World.ownsRow.lt HTs.out.own bb hbb).2
        exact ⟨by have:=hT2.low;omega,fun i hi=>by have:=(hT2.rlow i hi).1;omega⟩
      clear hb3 hcell hT2
      go_wp2_with (first
        | (at_builtin
           refine wpList_append_lies _ rfl _ _ _ rfl (w.heap.size+1) 44 i0 _ 1 24 Tryz.underlying45 hi0 hz0 hz1 hz2 rfl (by omega) u6 _ _ rfl (HTs3.out.next ((Below.refl _ _).alloc (Nat.le_refl _) _)).own ⟨w3.heap.size,0,none⟩ 1 1 [tv n (g2,r2)] rfl rfl ?c1 ?c2 (by omega) ?c3 ?c4 ?c5 _ rfl ?_
           case c1=>exact (cell_one_new _ _ _)
           case c2=>simp[Value.oneCell',tv]
           case c3=>unfold maxLen;omega
           case c4=>omega
           case c5=>simp;omega
           intro g cap w4 hown4 hg4 hat4 hlt4))
      refine ⟨⟨j+1,ts++[(g2,r2)],by omega,by go_num,by simp[htl],Lib.hid ?_,Lib.hid ?_,Lib.hid ?_⟩,by simp[intOf];omega⟩
      · have hpush:=TabsAt.push (HTs3.out.next ((Below.refl _ _).alloc (Nat.le_refl _) _)) (HT2.out.next ((Below.refl _ _).alloc (Nat.le_refl _) _)) hown4 hg4 hat4 (Nat.le_refl _) HNew.out
        rw[htl] at hpush
        rw[List.take_succ_eq_append_getElem hlt,List.map_append,List.map_cons,List.map_nil]
        exact hpush
      · exact At.grown' (HAt3.out.alloc _) hg4 (fun e=>by have:=(World.ownsRow.lt HTs.out.own _ e.symm).1;omega)
      · exact below_grown' (HB3.out.alloc (by omega) _) (by simp;omega) hg4 (fun bb hbb=>by have:=(World.ownsRow.lt HTs.out.own bb hbb).1;omega)
    · obtain rfl:j=t.parts.length:=by omega
      have hts:=HTs.out
      rw[List.take_length] at hts
      have HTs:=Lib.hid hts
      clear hts
      have HS:Hid (spansS l (k+1) t=lookF ((t.parts.map (spansS l k)).headD noF) n true t.neg):=spans_9 hk HL.out
      have c0:=(At.tr_cell HAt.out).1
      rw[hk] at c0
      clear hk
      go_wp2_with fail
      refine (refBlankI n (by omega) _ (by have:=HNW.out;omega) _).mono ?_
      rintro e w2 ⟨g2,r2,rfl,hg2,hb2⟩
      have HW:=Lib.hid HB.out.size
      have HAt:=Lib.hid (HAt.out.step hb2 rfl)
      have HTs:=Lib.hid (HTs.out.next hb2)
      have HB:=Lib.hid (HB.out.trans (hb2.mono HB.out.size))
      have HT2:=Lib.hid (hg2.lower HW.out)
      clear hg2 hb2
      clear c0
      have c0:=(At.tr_cell HAt.out).1
      rw[HK.out] at c0
      go_wp2_with fail
      have h1:t.parts.length=1:=formed_one HFo.out (by rw[HK.out];decide)
      have hlenT:=HTs.out.len
      rw[List.length_map,h1] at hlenT
      have htl1:ts.length=1:=hlenT
      obtain ⟨A6,cap6,hv6⟩:=HTs.out.len_form
      subst hv6
      obtain ⟨gr,capr,hvr,_,_⟩:=HTs.out.form (by omega)
      injection hvr with hA6 _ hcap
      subst hA6
      subst hcap
      have hjn:(0:Int)<(ts.length:Int):=by omega
      have hc:=HTs.out.cell 0 (by omega)
      obtain ⟨F,hF⟩:∃F,F=(t.parts.map (spansS l k))[0]'(by rw[List.length_map,h1];omega):=⟨_,rfl⟩
      have hhd:Hid ((t.parts.map (spansS l k)).headD noF=F):=Lib.hid (by rw[hF];exact headD_get _ (by rw[List.length_map,h1];omega))
      have HT0:=HTs.out.tab 0 (by omega) (by rw[List.length_map,h1];omega)
      obtain ⟨p0,hp0⟩:∃p0:TG,p0=ts[0]'(by omega):=⟨_,rfl⟩
      rw[←hF,←hp0] at HT0
      rw[←hp0] at hc
      have hTj:=Lib.hid HT0.tin
      have HTj:=Lib.hid HT0.drew
      clear HT0 hF hp0 h1 hlenT htl1 hpn htl
      have hcall:∀w1:World,TIn w1 p0.1 n F→Calls Tryz.prog 33 #[.agg #[.int .i64 t.kind,.int .u64 t.set.w0,.int .u64 t.set.w1,.int .u64 t.set.w2,.int .u64 t.set.w3,.slice t.addr t.n t.cap,.int .i64 t.lo,.int .i64 t.hi,.bool t.neg],.slice (some ⟨p0.1,0,none⟩) n n] w1 (Tabled w1 n (lookF F n true t.neg)):=fun w1 h=>refLook9 n p0.1 _ t (by omega) HK.out w1 h
      have HBd:=Lib.hid (Below.drew HB.out)
      have hws:=HBd.out.size
      go_wp2_with fail
      clear c0
      obtain ⟨c0,c1,c2,c3,c4,c5,c6,c7,c8⟩:=At.tr_cells HAt.out
      go_region_with (first
        | (go_at_call 33;(with_reducible refine (hcall _ ?_).mono ?_);exact HTj.out.tin;rintro e w3 ⟨g3,r3,rfl,hg3,hb3⟩;have HB3:=Lib.hid (HBd.out.trans (hb3.mono hws));have HT3:=Lib.hid (hg3.lower hws)))
      all_goals go_wp2_with fail
      all_goals go_ret
      all_goals exact ⟨g3,r3,rfl,by rw[HS.out,hhd.out];exact HT3.out,HB3.out⟩
theorem spansAt_10 (k:Nat) (l:List Nat) (ih:SpansAt k l) (t:Tr) (A:Option Addr) (c:Nat) (w:World) (h:Tr.In w (k+1) t) (hs:slimS (k+1) t) (hf:formedS (k+1) t=true) (hw:IsBytes w A l.length l) (hl10:l.length≤10) (hk:t.kind=10) :
    Calls Tryz.prog 15 #[.agg t.cs.toArray,.slice A l.length c] w (Tabled w (l.length+1) (spansS l (k+1) t)):=by
  obtain ⟨n,hn⟩:∃n,n=l.length+1:=⟨_,rfl⟩
  obtain ⟨wl,hwl⟩:∃wl,wl=l.length:=⟨_,rfl⟩
  rw[←hn]
  have HL:Hid (n=l.length+1):=hn
  have hnw:n=wl+1:=by omega
  have hn11:n≤1000:=by omega
  have HNW:=Lib.hid hnw
  rw[←hwl] at hl10 hw ⊢
  have HWl:=Lib.hid hwl
  have HWb:=Lib.hid hw
  have HI:=Lib.hid h
  have HSl:=Lib.hid hs
  have HFo:=Lib.hid hf
  have HIH:=Lib.hid ih
  have hpn:=h.2.1.1
  have HN:=Lib.hid hpn
  have hp2000:t.parts.length≤2000:=hs.1
  have HK:=Lib.hid hk
  clear h hs hf ih hn hwl hw hnw
  obtain ⟨i0,hi0,hz0,hz1,hz2⟩:=info_parts info_table
  have HC:=Lib.hid (At.tr_cell (At.new w 27 t.cs.toArray))
  have hcell:=HC.out.2.1
  go_enter Tryz.func15,Tryz.ntmps15
  go_wp2_with fail
  go_loopw [6,21] (fun v x wr=>∃(j:Nat) (ts:List TG),j≤t.parts.length∧x=.int .i64 j∧ts.length=j∧Hid (TabsAt wr (w.heap.size+1) v n ts ((t.parts.take j).map (spansS l k)))∧Hid (At wr w.heap.size 27 t.cs.toArray)∧Hid (Below w.heap.size w wr)) (fun _ x _=>t.parts.length-(intOf x).toNat)
  case atStart=>exact ⟨0,[],Nat.zero_le _,rfl,rfl,Lib.hid (TabsAt.nil _ _ _),Lib.hid (At.new _ _ _),Lib.hid ((Below.refl _ _).alloc (Nat.le_refl _) _)⟩
  case round =>
    obtain ⟨j,ts,hj,rfl,htl,HTs,HAt,HB⟩:=hrel
    clear hcell
    by_cases hlt:j<t.parts.length
    · have hcell:=(At.tr_cell HAt.out).2.1
      obtain ⟨b,off,ha,hb,hr⟩:=HI.out.2.2.1 (by rw[HN.out];omega)
      have HR:=Lib.hid (range_below (hr j hlt) hb (Nat.le_refl _) HB.out)
      have HP:=Lib.hid (Tr.In.next (HI.out.2.2.2 j hlt) HB.out)
      have HPs:=Lib.hid (HSl.out.2 _ (List.getElem_mem hlt))
      have HPf:=Lib.hid (formed_part HFo.out hlt)
      clear hr hb
      rw[ha] at hcell
      clear ha
      have hjz:(0:Int)≤(j:Int):=by omega
      have hjn:(j:Int)<(t.parts.length:Int):=by omega
      go_wp2_with (refine wpList_load_mid rfl 27 _ rfl b (off+j*9) rfl t.parts[j].cs _ HR.out Tryz.underlying27 rfl (by rw[Tr.cs_length];kernel_rfl) ?_)
      have hih:=HIH.out t.parts[j] A c wr HP.out HPs.out HPf.out (by rw[←HWl.out];exact HWb.out.below HB.out) (by rw[←HWl.out];exact hl10)
      rw[←HWl.out,←HNW.out] at hih
      refine hih.mono ?_
      clear hih
      rintro e w3 ⟨g2,r2,rfl,hT2,hb3⟩
      have hws:=HB.out.size
      have hat1:=HAt.out.lt
      have HTs3:=Lib.hid (HTs.out.next hb3)
      have HAt3:=Lib.hid (HAt.out.step hb3 rfl)
      have HB3:=Lib.hid (HB.out.trans (hb3.mono hws))
      have HT2:=Lib.hid (hT2.lower (show w.heap.size+1≤wr.heap.size by omega))
      have hw3:=hb3.size
      have HNew:Hid (∀bb,u6.ownBlock=some bb→g2≠bb∧∀i,i<n→r2 i≠bb):=fun bb hbb=>by
        have hlt2:=(World.ownsRow.lt HTs.out.own bb hbb).2
        exact ⟨by have:=hT2.low;omega,fun i hi=>by have:=(hT2.rlow i hi).1;omega⟩
      clear hb3 hcell hT2
      go_wp2_with (first
        | (at_builtin
           refine wpList_append_lies _ rfl _ _ _ rfl (w.heap.size+1) 44 i0 _ 1 24 Tryz.underlying45 hi0 hz0 hz1 hz2 rfl (by omega) u6 _ _ rfl (HTs3.out.next ((Below.refl _ _).alloc (Nat.le_refl _) _)).own ⟨w3.heap.size,0,none⟩ 1 1 [tv n (g2,r2)] rfl rfl ?c1 ?c2 (by omega) ?c3 ?c4 ?c5 _ rfl ?_
           case c1=>exact (cell_one_new _ _ _)
           case c2=>simp[Value.oneCell',tv]
           case c3=>unfold maxLen;omega
           case c4=>omega
           case c5=>simp;omega
           intro g cap w4 hown4 hg4 hat4 hlt4))
      refine ⟨⟨j+1,ts++[(g2,r2)],by omega,by go_num,by simp[htl],Lib.hid ?_,Lib.hid ?_,Lib.hid ?_⟩,by simp[intOf];omega⟩
      · have hpush:=TabsAt.push (HTs3.out.next ((Below.refl _ _).alloc (Nat.le_refl _) _)) (HT2.out.next ((Below.refl _ _).alloc (Nat.le_refl _) _)) hown4 hg4 hat4 (Nat.le_refl _) HNew.out
        rw[htl] at hpush
        rw[List.take_succ_eq_append_getElem hlt,List.map_append,List.map_cons,List.map_nil]
        exact hpush
      · exact At.grown' (HAt3.out.alloc _) hg4 (fun e=>by have:=(World.ownsRow.lt HTs.out.own _ e.symm).1;omega)
      · exact below_grown' (HB3.out.alloc (by omega) _) (by simp;omega) hg4 (fun bb hbb=>by have:=(World.ownsRow.lt HTs.out.own bb hbb).1;omega)
    · obtain rfl:j=t.parts.length:=by omega
      have hts:=HTs.out
      rw[List.take_length] at hts
      have HTs:=Lib.hid hts
      clear hts
      have HS:Hid (spansS l (k+1) t=beginF l):=spans_10 hk HL.out
      have c0:=(At.tr_cell HAt.out).1
      rw[hk] at c0
      clear hk
      go_wp2_with fail
      refine (refBlankI n (by omega) _ (by have:=HNW.out;omega) _).mono ?_
      rintro e w2 ⟨g2,r2,rfl,hg2,hb2⟩
      have HW:=Lib.hid HB.out.size
      have HAt:=Lib.hid (HAt.out.step hb2 rfl)
      have HTs:=Lib.hid (HTs.out.next hb2)
      have HB:=Lib.hid (HB.out.trans (hb2.mono HB.out.size))
      have HT2:=Lib.hid (hg2.lower HW.out)
      clear hg2 hb2
      clear c0
      have c0:=(At.tr_cell HAt.out).1
      rw[HK.out] at c0
      go_wp2_with fail
      clear c0
      have HD:Hid (TabAt w2 51 4 w.heap.size g2 n r2 (diagTo (beginF l) 0)):=Lib.hid (HT2.out.congr (fun i j _ _=>(diagTo_zero _ i j).symm))
      clear HT2
      go_wp2_with fail
      go_loopw [137] (fun x wr=>∃i:Nat,i≤n∧x=.int .i64 i∧Hid (TabAt wr 51 4 w.heap.size g2 n r2 (diagTo (beginF l) i))∧Hid (Below w.heap.size w wr)) (fun x _=>n-(intOf x).toNat)
      case atStart=>exact ⟨0,Nat.zero_le _,rfl,HD,HB⟩
      case round =>
        clear HD HB
        obtain ⟨i,hi,rfl,HD,HB⟩:=hrel
        by_cases hlt:i<n
        · have hin:(i:Int)<(n:Int):=by omega
          have hi0:(0:Int)≤(i:Int):=by omega
          have q5:=HD.out.cellTop hlt
          have q6:=HD.out.cellRow hlt hlt
          have q7:=HD.out.freeRow hlt i
          obtain ⟨old,hold⟩:∃v:Bool,diagTo (beginF l) i i i=v:=⟨_,rfl⟩
          rw[hold] at q6
          clear hold
          by_cases he:i=0
          · subst he
            go_wp2_with fail
            go_region
            go_wp2_with fail
            go_roundw
            case rel=>exact ⟨0+1,by omega,by go_num,Lib.hid (TabAt.drew ((HD.out.put 0 hlt true).congr (fun i' j' _ _=>diagTo_step (fun j hj=>begin_off hj) (begin_0) i' j'))),Lib.hid (Below.drew (HB.out.setCell (by have:=(HD.out.rlow 0 hlt).1;exact this) _))⟩
            case measure=>simp[intOf];omega
          · have hne:¬(i:Int)=0:=by omega
            have hne1:decide ((i:Int)=0)=false:=decide_eq_false hne
            have hne3:(i==0)=false:=beq_eq_false_iff_ne.2 he
            have hne4:decide (i=0)=false:=decide_eq_false he
            have hne2:((i:Int)==0)=false:=beq_eq_false_iff_ne.2 hne
            obtain ⟨m,hm⟩:∃m:Nat,i=m+1:=⟨i-1,by omega⟩
            have hw1:IntKind.i64.wrap ((i:Int)-1)=(m:Int):=by rw[IntKind.wrap_i64];omega
            have hmn:m<wl:=by have:=HNW.out;omega
            have hml:m<l.length:=by have:=HWl.out;omega
            obtain ⟨b,off,hA,hb,hc⟩:=(HWb.out.below HB.out).2.2.2 (by omega)
            have q1:=hc m hml
            obtain ⟨x,hx⟩:∃x:Nat,l[m]=x:=⟨_,rfl⟩
            rw[hx] at q1
            have HX:Hid ((l[m]?).getD 0=x):=by rw[List.getElem?_eq_getElem hml,←hx];exact rfl
            have hm0:(0:Int)≤(m:Int):=by omega
            have hmn':(m:Int)<(wl:Int):=by omega
            have HM:=Lib.hid hm
            clear hx hc hb hm
            subst hA
            by_cases hx10:x=10
            · subst hx10
              go_wp2_with fail
              go_still_tail 15,(by kernel_rfl)
              change wpList _ _ _ _ _ (World.drew _)
              go_wp2_with fail
              go_roundw
              case rel=>exact ⟨i+1,by omega,by go_num,Lib.hid ((HD.out.drew.put i hlt true).congr (fun i' j' _ _=>diagTo_step (fun j hj=>begin_off hj) (begin_at HM.out HX.out (rfl)) i' j')),Lib.hid ((Below.drew HB.out).setCell (by have:=(HD.out.rlow i hlt).1;exact this) _)⟩
              case measure=>simp[intOf];omega
            · have hx10':¬(x:Int)=10:=by omega
              have hx11:((x:Int)==10)=false:=beq_eq_false_iff_ne.2 hx10'
              go_wp2_with fail
              go_still_tail 15,(by kernel_rfl)
              change wpList _ _ _ _ _ (World.drew _)
              go_wp2_with fail
              go_roundw
              case rel=>exact ⟨i+1,by omega,by go_num,Lib.hid ((HD.out.drew.put i hlt false).congr (fun i' j' _ _=>diagTo_step (fun j hj=>begin_off hj) (begin_at HM.out HX.out ((decide_eq_false hx10).symm)) i' j')),Lib.hid ((Below.drew HB.out).setCell (by have:=(HD.out.rlow i hlt).1;exact this) _)⟩
              case measure=>simp[intOf];omega
        · obtain rfl:i=n:=by omega
          go_wp2_with fail
          go_ret
          exact ⟨g2,r2,rfl,by rw[HS.out];exact HD.out.congr (fun i' j' h _=>diagTo_end h),HB.out⟩
theorem spansAt_11 (k:Nat) (l:List Nat) (ih:SpansAt k l) (t:Tr) (A:Option Addr) (c:Nat) (w:World) (h:Tr.In w (k+1) t) (hs:slimS (k+1) t) (hf:formedS (k+1) t=true) (hw:IsBytes w A l.length l) (hl10:l.length≤10) (hk:t.kind=11) :
    Calls Tryz.prog 15 #[.agg t.cs.toArray,.slice A l.length c] w (Tabled w (l.length+1) (spansS l (k+1) t)):=by
  obtain ⟨n,hn⟩:∃n,n=l.length+1:=⟨_,rfl⟩
  obtain ⟨wl,hwl⟩:∃wl,wl=l.length:=⟨_,rfl⟩
  rw[←hn]
  have HL:Hid (n=l.length+1):=hn
  have hnw:n=wl+1:=by omega
  have hn11:n≤1000:=by omega
  have HNW:=Lib.hid hnw
  rw[←hwl] at hl10 hw ⊢
  have HWl:=Lib.hid hwl
  have HWb:=Lib.hid hw
  have HI:=Lib.hid h
  have HSl:=Lib.hid hs
  have HFo:=Lib.hid hf
  have HIH:=Lib.hid ih
  have hpn:=h.2.1.1
  have HN:=Lib.hid hpn
  have hp2000:t.parts.length≤2000:=hs.1
  have HK:=Lib.hid hk
  clear h hs hf ih hn hwl hw hnw
  obtain ⟨i0,hi0,hz0,hz1,hz2⟩:=info_parts info_table
  have HC:=Lib.hid (At.tr_cell (At.new w 27 t.cs.toArray))
  have hcell:=HC.out.2.1
  go_enter Tryz.func15,Tryz.ntmps15
  go_wp2_with fail
  go_loopw [6,21] (fun v x wr=>∃(j:Nat) (ts:List TG),j≤t.parts.length∧x=.int .i64 j∧ts.length=j∧Hid (TabsAt wr (w.heap.size+1) v n ts ((t.parts.take j).map (spansS l k)))∧Hid (At wr w.heap.size 27 t.cs.toArray)∧Hid (Below w.heap.size w wr)) (fun _ x _=>t.parts.length-(intOf x).toNat)
  case atStart=>exact ⟨0,[],Nat.zero_le _,rfl,rfl,Lib.hid (TabsAt.nil _ _ _),Lib.hid (At.new _ _ _),Lib.hid ((Below.refl _ _).alloc (Nat.le_refl _) _)⟩
  case round =>
    obtain ⟨j,ts,hj,rfl,htl,HTs,HAt,HB⟩:=hrel
    clear hcell
    by_cases hlt:j<t.parts.length
    · have hcell:=(At.tr_cell HAt.out).2.1
      obtain ⟨b,off,ha,hb,hr⟩:=HI.out.2.2.1 (by rw[HN.out];omega)
      have HR:=Lib.hid (range_below (hr j hlt) hb (Nat.le_refl _) HB.out)
      have HP:=Lib.hid (Tr.In.next (HI.out.2.2.2 j hlt) HB.out)
      have HPs:=Lib.hid (HSl.out.2 _ (List.getElem_mem hlt))
      have HPf:=Lib.hid (formed_part HFo.out hlt)
      clear hr hb
      rw[ha] at hcell
      clear ha
      have hjz:(0:Int)≤(j:Int):=by omega
      have hjn:(j:Int)<(t.parts.length:Int):=by omega
      go_wp2_with (refine wpList_load_mid rfl 27 _ rfl b (off+j*9) rfl t.parts[j].cs _ HR.out Tryz.underlying27 rfl (by rw[Tr.cs_length];kernel_rfl) ?_)
      have hih:=HIH.out t.parts[j] A c wr HP.out HPs.out HPf.out (by rw[←HWl.out];exact HWb.out.below HB.out) (by rw[←HWl.out];exact hl10)
      rw[←HWl.out,←HNW.out] at hih
      refine hih.mono ?_
      clear hih
      rintro e w3 ⟨g2,r2,rfl,hT2,hb3⟩
      have hws:=HB.out.size
      have hat1:=HAt.out.lt
      have HTs3:=Lib.hid (HTs.out.next hb3)
      have HAt3:=Lib.hid (HAt.out.step hb3 rfl)
      have HB3:=Lib.hid (HB.out.trans (hb3.mono hws))
      have HT2:=Lib.hid (hT2.lower (show w.heap.size+1≤wr.heap.size by omega))
      have hw3:=hb3.size
      have HNew:Hid (∀bb,u6.ownBlock=some bb→g2≠bb∧∀i,i<n→r2 i≠bb):=fun bb hbb=>by
        have hlt2:=(World.ownsRow.lt HTs.out.own bb hbb).2
        exact ⟨by have:=hT2.low;omega,fun i hi=>by have:=(hT2.rlow i hi).1;omega⟩
      clear hb3 hcell hT2
      go_wp2_with (first
        | (at_builtin
           refine wpList_append_lies _ rfl _ _ _ rfl (w.heap.size+1) 44 i0 _ 1 24 Tryz.underlying45 hi0 hz0 hz1 hz2 rfl (by omega) u6 _ _ rfl (HTs3.out.next ((Below.refl _ _).alloc (Nat.le_refl _) _)).own ⟨w3.heap.size,0,none⟩ 1 1 [tv n (g2,r2)] rfl rfl ?c1 ?c2 (by omega) ?c3 ?c4 ?c5 _ rfl ?_
           case c1=>exact (cell_one_new _ _ _)
           case c2=>simp[Value.oneCell',tv]
           case c3=>unfold maxLen;omega
           case c4=>omega
           case c5=>simp;omega
           intro g cap w4 hown4 hg4 hat4 hlt4))
      refine ⟨⟨j+1,ts++[(g2,r2)],by omega,by go_num,by simp[htl],Lib.hid ?_,Lib.hid ?_,Lib.hid ?_⟩,by simp[intOf];omega⟩
      · have hpush:=TabsAt.push (HTs3.out.next ((Below.refl _ _).alloc (Nat.le_refl _) _)) (HT2.out.next ((Below.refl _ _).alloc (Nat.le_refl _) _)) hown4 hg4 hat4 (Nat.le_refl _) HNew.out
        rw[htl] at hpush
        rw[List.take_succ_eq_append_getElem hlt,List.map_append,List.map_cons,List.map_nil]
        exact hpush
      · exact At.grown' (HAt3.out.alloc _) hg4 (fun e=>by have:=(World.ownsRow.lt HTs.out.own _ e.symm).1;omega)
      · exact below_grown' (HB3.out.alloc (by omega) _) (by simp;omega) hg4 (fun bb hbb=>by have:=(World.ownsRow.lt HTs.out.own bb hbb).1;omega)
    · obtain rfl:j=t.parts.length:=by omega
      have hts:=HTs.out
      rw[List.take_length] at hts
      have HTs:=Lib.hid hts
      clear hts
      have HS:Hid (spansS l (k+1) t=endF l):=spans_11 hk HL.out
      have c0:=(At.tr_cell HAt.out).1
      rw[hk] at c0
      clear hk
      go_wp2_with fail
      refine (refBlankI n (by omega) _ (by have:=HNW.out;omega) _).mono ?_
      rintro e w2 ⟨g2,r2,rfl,hg2,hb2⟩
      have HW:=Lib.hid HB.out.size
      have HAt:=Lib.hid (HAt.out.step hb2 rfl)
      have HTs:=Lib.hid (HTs.out.next hb2)
      have HB:=Lib.hid (HB.out.trans (hb2.mono HB.out.size))
      have HT2:=Lib.hid (hg2.lower HW.out)
      clear hg2 hb2
      clear c0
      have c0:=(At.tr_cell HAt.out).1
      rw[HK.out] at c0
      go_wp2_with fail
      clear c0
      have HD:Hid (TabAt w2 51 4 w.heap.size g2 n r2 (diagTo (endF l) 0)):=Lib.hid (HT2.out.congr (fun i j _ _=>(diagTo_zero _ i j).symm))
      clear HT2
      go_wp2_with fail
      go_loopw [161] (fun x wr=>∃i:Nat,i≤n∧x=.int .i64 i∧Hid (TabAt wr 51 4 w.heap.size g2 n r2 (diagTo (endF l) i))∧Hid (Below w.heap.size w wr)) (fun x _=>n-(intOf x).toNat)
      case atStart=>exact ⟨0,Nat.zero_le _,rfl,HD,HB⟩
      case round =>
        clear HD HB
        obtain ⟨i,hi,rfl,HD,HB⟩:=hrel
        by_cases hlt:i<n
        · have hin:(i:Int)<(n:Int):=by omega
          have hi0:(0:Int)≤(i:Int):=by omega
          have q5:=HD.out.cellTop hlt
          have q6:=HD.out.cellRow hlt hlt
          have q7:=HD.out.freeRow hlt i
          obtain ⟨old,hold⟩:∃v:Bool,diagTo (endF l) i i i=v:=⟨_,rfl⟩
          rw[hold] at q6
          clear hold
          by_cases he:i=wl
          · have hel:i=l.length:=by rw[he];exact HWl.out
            have HEL:=Lib.hid hel
            clear hel
            subst he
            go_wp2_with fail
            go_region
            go_wp2_with fail
            go_roundw
            case rel=>exact ⟨i+1,by omega,by go_num,Lib.hid (TabAt.drew ((HD.out.put i hlt true).congr (fun i' j' _ _=>diagTo_step (fun j hj=>end_off hj) (end_last HEL.out) i' j'))),Lib.hid (Below.drew (HB.out.setCell (by have:=(HD.out.rlow i hlt).1;exact this) _))⟩
            case measure=>simp[intOf];omega
          · have hne:¬(i:Int)=(wl:Int):=by omega
            have hne1:decide ((i:Int)=(wl:Int))=false:=decide_eq_false hne
            have hne3:(i==wl)=false:=beq_eq_false_iff_ne.2 he
            have hne4:decide (i=wl)=false:=decide_eq_false he
            have hne2:((i:Int)==(wl:Int))=false:=beq_eq_false_iff_ne.2 hne
            have hmn:i<wl:=by have:=HNW.out;omega
            have hml:i<l.length:=by have:=HWl.out;omega
            obtain ⟨b,off,hA,hb,hc⟩:=(HWb.out.below HB.out).2.2.2 (by omega)
            have q1:=hc i hml
            obtain ⟨x,hx⟩:∃x:Nat,l[i]=x:=⟨_,rfl⟩
            rw[hx] at q1
            have HX:Hid ((l[i]?).getD 0=x):=by rw[List.getElem?_eq_getElem hml,←hx];exact rfl
            have hm0:(0:Int)≤(i:Int):=by omega
            have hmn':(i:Int)<(wl:Int):=by omega
            clear hx hc hb
            subst hA
            by_cases hx10:x=10
            · subst hx10
              go_wp2_with fail
              go_still_tail 16,(by kernel_rfl)
              change wpList _ _ _ _ _ (World.drew _)
              go_wp2_with fail
              go_roundw
              case rel=>exact ⟨i+1,by omega,by go_num,Lib.hid ((HD.out.drew.put i hlt true).congr (fun i' j' _ _=>diagTo_step (fun j hj=>end_off hj) (end_at (by have:=HWl.out;omega) HX.out (rfl)) i' j')),Lib.hid ((Below.drew HB.out).setCell (by have:=(HD.out.rlow i hlt).1;exact this) _)⟩
              case measure=>simp[intOf];omega
            · have hx10':¬(x:Int)=10:=by omega
              have hx11:((x:Int)==10)=false:=beq_eq_false_iff_ne.2 hx10'
              go_wp2_with fail
              go_still_tail 16,(by kernel_rfl)
              change wpList _ _ _ _ _ (World.drew _)
              go_wp2_with fail
              go_roundw
              case rel=>exact ⟨i+1,by omega,by go_num,Lib.hid ((HD.out.drew.put i hlt false).congr (fun i' j' _ _=>diagTo_step (fun j hj=>end_off hj) (end_at (by have:=HWl.out;omega) HX.out ((decide_eq_false hx10).symm)) i' j')),Lib.hid ((Below.drew HB.out).setCell (by have:=(HD.out.rlow i hlt).1;exact this) _)⟩
              case measure=>simp[intOf];omega
        · obtain rfl:i=n:=by omega
          go_wp2_with fail
          go_ret
          exact ⟨g2,r2,rfl,by rw[HS.out];exact HD.out.congr (fun i' j' h _=>diagTo_end h),HB.out⟩
theorem spansAt_2 (k:Nat) (l:List Nat) (ih:SpansAt k l) (t:Tr) (A:Option Addr) (c:Nat) (w:World) (h:Tr.In w (k+1) t) (hs:slimS (k+1) t) (hf:formedS (k+1) t=true) (hw:IsBytes w A l.length l) (hl10:l.length≤10) (hk:t.kind=2) :
    Calls Tryz.prog 15 #[.agg t.cs.toArray,.slice A l.length c] w (Tabled w (l.length+1) (spansS l (k+1) t)):=by
  obtain ⟨n,hn⟩:∃n,n=l.length+1:=⟨_,rfl⟩
  obtain ⟨wl,hwl⟩:∃wl,wl=l.length:=⟨_,rfl⟩
  rw[←hn]
  have HL:Hid (n=l.length+1):=hn
  have hnw:n=wl+1:=by omega
  have hn11:n≤1000:=by omega
  have HNW:=Lib.hid hnw
  rw[←hwl] at hl10 hw ⊢
  have HWl:=Lib.hid hwl
  have HWb:=Lib.hid hw
  have HI:=Lib.hid h
  have HSl:=Lib.hid hs
  have HFo:=Lib.hid hf
  have HIH:=Lib.hid ih
  have hpn:=h.2.1.1
  have HN:=Lib.hid hpn
  have hp2000:t.parts.length≤2000:=hs.1
  have HK:=Lib.hid hk
  clear h hs hf ih hn hwl hw hnw
  obtain ⟨i0,hi0,hz0,hz1,hz2⟩:=info_parts info_table
  have HC:=Lib.hid (At.tr_cell (At.new w 27 t.cs.toArray))
  have hcell:=HC.out.2.1
  go_enter Tryz.func15,Tryz.ntmps15
  go_wp2_with fail
  go_loopw [6,21] (fun v x wr=>∃(j:Nat) (ts:List TG),j≤t.parts.length∧x=.int .i64 j∧ts.length=j∧Hid (TabsAt wr (w.heap.size+1) v n ts ((t.parts.take j).map (spansS l k)))∧Hid (At wr w.heap.size 27 t.cs.toArray)∧Hid (Below w.heap.size w wr)) (fun _ x _=>t.parts.length-(intOf x).toNat)
  case atStart=>exact ⟨0,[],Nat.zero_le _,rfl,rfl,Lib.hid (TabsAt.nil _ _ _),Lib.hid (At.new _ _ _),Lib.hid ((Below.refl _ _).alloc (Nat.le_refl _) _)⟩
  case round =>
    obtain ⟨j,ts,hj,rfl,htl,HTs,HAt,HB⟩:=hrel
    clear hcell
    by_cases hlt:j<t.parts.length
    · have hcell:=(At.tr_cell HAt.out).2.1
      obtain ⟨b,off,ha,hb,hr⟩:=HI.out.2.2.1 (by rw[HN.out];omega)
      have HR:=Lib.hid (range_below (hr j hlt) hb (Nat.le_refl _) HB.out)
      have HP:=Lib.hid (Tr.In.next (HI.out.2.2.2 j hlt) HB.out)
      have HPs:=Lib.hid (HSl.out.2 _ (List.getElem_mem hlt))
      have HPf:=Lib.hid (formed_part HFo.out hlt)
      clear hr hb
      rw[ha] at hcell
      clear ha
      have hjz:(0:Int)≤(j:Int):=by omega
      have hjn:(j:Int)<(t.parts.length:Int):=by omega
      go_wp2_with (refine wpList_load_mid rfl 27 _ rfl b (off+j*9) rfl t.parts[j].cs _ HR.out Tryz.underlying27 rfl (by rw[Tr.cs_length];kernel_rfl) ?_)
      have hih:=HIH.out t.parts[j] A c wr HP.out HPs.out HPf.out (by rw[←HWl.out];exact HWb.out.below HB.out) (by rw[←HWl.out];exact hl10)
      rw[←HWl.out,←HNW.out] at hih
      refine hih.mono ?_
      clear hih
      rintro e w3 ⟨g2,r2,rfl,hT2,hb3⟩
      have hws:=HB.out.size
      have hat1:=HAt.out.lt
      have HTs3:=Lib.hid (HTs.out.next hb3)
      have HAt3:=Lib.hid (HAt.out.step hb3 rfl)
      have HB3:=Lib.hid (HB.out.trans (hb3.mono hws))
      have HT2:=Lib.hid (hT2.lower (show w.heap.size+1≤wr.heap.size by omega))
      have hw3:=hb3.size
      have HNew:Hid (∀bb,u6.ownBlock=some bb→g2≠bb∧∀i,i<n→r2 i≠bb):=fun bb hbb=>by
        have hlt2:=(World.ownsRow.lt HTs.out.own bb hbb).2
        exact ⟨by have:=hT2.low;omega,fun i hi=>by have:=(hT2.rlow i hi).1;omega⟩
      clear hb3 hcell hT2
      go_wp2_with (first
        | (at_builtin
           refine wpList_append_lies _ rfl _ _ _ rfl (w.heap.size+1) 44 i0 _ 1 24 Tryz.underlying45 hi0 hz0 hz1 hz2 rfl (by omega) u6 _ _ rfl (HTs3.out.next ((Below.refl _ _).alloc (Nat.le_refl _) _)).own ⟨w3.heap.size,0,none⟩ 1 1 [tv n (g2,r2)] rfl rfl ?c1 ?c2 (by omega) ?c3 ?c4 ?c5 _ rfl ?_
           case c1=>exact (cell_one_new _ _ _)
           case c2=>simp[Value.oneCell',tv]
           case c3=>unfold maxLen;omega
           case c4=>omega
           case c5=>simp;omega
           intro g cap w4 hown4 hg4 hat4 hlt4))
      refine ⟨⟨j+1,ts++[(g2,r2)],by omega,by go_num,by simp[htl],Lib.hid ?_,Lib.hid ?_,Lib.hid ?_⟩,by simp[intOf];omega⟩
      · have hpush:=TabsAt.push (HTs3.out.next ((Below.refl _ _).alloc (Nat.le_refl _) _)) (HT2.out.next ((Below.refl _ _).alloc (Nat.le_refl _) _)) hown4 hg4 hat4 (Nat.le_refl _) HNew.out
        rw[htl] at hpush
        rw[List.take_succ_eq_append_getElem hlt,List.map_append,List.map_cons,List.map_nil]
        exact hpush
      · exact At.grown' (HAt3.out.alloc _) hg4 (fun e=>by have:=(World.ownsRow.lt HTs.out.own _ e.symm).1;omega)
      · exact below_grown' (HB3.out.alloc (by omega) _) (by simp;omega) hg4 (fun bb hbb=>by have:=(World.ownsRow.lt HTs.out.own bb hbb).1;omega)
    · obtain rfl:j=t.parts.length:=by omega
      have hts:=HTs.out
      rw[List.take_length] at hts
      have HTs:=Lib.hid hts
      clear hts
      have HS:Hid (spansS l (k+1) t=byteF t.set l):=spans_2 hk HL.out
      have c0:=(At.tr_cell HAt.out).1
      rw[hk] at c0
      clear hk
      go_wp2_with fail
      refine (refBlankI n (by omega) _ (by have:=HNW.out;omega) _).mono ?_
      rintro e w2 ⟨g2,r2,rfl,hg2,hb2⟩
      have HW:=Lib.hid HB.out.size
      have HAt:=Lib.hid (HAt.out.step hb2 rfl)
      have HTs:=Lib.hid (HTs.out.next hb2)
      have HB:=Lib.hid (HB.out.trans (hb2.mono HB.out.size))
      have HT2:=Lib.hid (hg2.lower HW.out)
      clear hg2 hb2
      clear c0
      have c0:=(At.tr_cell HAt.out).1
      rw[HK.out] at c0
      go_wp2_with fail
      clear c0
      have HD:Hid (TabAt w2 51 4 w.heap.size g2 n r2 (diagTo (byteF t.set l) 0)):=Lib.hid (HT2.out.congr (fun i j _ _=>(diagTo_zero _ i j).symm))
      clear HT2
      have HSo:=Lib.hid HI.out.1.1
      go_wp2_with fail
      go_loopw [47] (fun x wr=>∃i:Nat,i≤wl∧x=.int .i64 i∧Hid (TabAt wr 51 4 w.heap.size g2 n r2 (diagTo (byteF t.set l) i))∧Hid (At wr w.heap.size 27 t.cs.toArray)∧Hid (Below w.heap.size w wr)) (fun x _=>wl-(intOf x).toNat)
      case atStart=>exact ⟨0,Nat.zero_le _,rfl,HD,HAt,HB⟩
      case round =>
        clear HD HB HAt
        obtain ⟨i,hi,rfl,HD,HAt,HB⟩:=hrel
        by_cases hlt0:i<wl
        · have hlt:i<n:=by have:=HNW.out;omega
          have hlt1:i+1<n:=by have:=HNW.out;omega
          have hin:(i:Int)<(n:Int):=by omega
          have hin1:(i:Int)+1<(n:Int):=by omega
          have hi0:(0:Int)≤(i:Int):=by omega
          have hi1:(0:Int)≤(i:Int)+1:=by omega
          have hiw:(i:Int)<(wl:Int):=by omega
          have hml:i<l.length:=by have:=HWl.out;omega
          obtain ⟨b,off,hA,hb,hc⟩:=(HWb.out.below HB.out).2.2.2 (by omega)
          have q1:=hc i hml
          have hx256:=HWb.out.2.2.1 i hml
          obtain ⟨x,hx⟩:∃x:Nat,l[i]=x:=⟨_,rfl⟩
          rw[hx] at q1 hx256
          have HX:Hid ((l[i]?).getD 0=x):=by rw[List.getElem?_eq_getElem hml,←hx];exact rfl
          obtain ⟨v,hv⟩:∃v:Bool,t.set.has x=v:=⟨_,rfl⟩
          have HV:=Lib.hid hv
          have hbw:b<w.heap.size:=by
            obtain ⟨b',off',hA',hb',_⟩:=HWb.out.2.2.2 (by omega)
            rw[hA] at hA'
            injection hA' with hA'
            injection hA' with e1 _ _
            omega
          clear hx hc hb hv
          subst hA
          have q5:=HD.out.cellTop hlt
          obtain ⟨c0,c1,c2,c3,c4,c5,c6,c7,c8⟩:=At.tr_cells HAt.out
          clear c0 c5 c6 c7 c8
          have hrl:=HD.out.rlow i hlt
          have hr1:r2 i≠g2:=hrl.2
          have hr2:w.heap.size≤r2 i:=hrl.1
          have hr3:r2 i≠w.heap.size:=(at_types HAt.out (HD.out.row i hlt) (by decide)).symm
          have hr4:r2 i≠b:=by omega
          clear hrl
          have hwi:IntKind.i64.wrap ((i:Int)+1)=(i:Int)+1:=by rw[IntKind.wrap_i64];omega
          have hti:((i:Int)+1).toNat=i+1:=by omega
          have hwx:IntKind.i64.wrap (x:Int)=(x:Int):=by rw[IntKind.wrap_i64];omega
          go_wp2_with fail
          go_region_held3 (fun w'=>w'.cell? ⟨g2,i,none⟩=some (.slice (some ⟨r2 i,0,none⟩) n n)∧w'.cell? ⟨w.heap.size,1,none⟩=some (.int .u64 t.set.w0)∧w'.cell? ⟨w.heap.size,2,none⟩=some (.int .u64 t.set.w1)∧w'.cell? ⟨w.heap.size,3,none⟩=some (.int .u64 t.set.w2)∧w'.cell? ⟨w.heap.size,4,none⟩=some (.int .u64 t.set.w3)∧w'.cell? ⟨b,off+i,none⟩=some (.int .u8 x))
            (first | go_keep | exact ⟨s5,s1,s2,s3,s4,sb⟩ | fail)
            ((go_at_call 25
              (with_reducible refine (refHasV t.set HSo.out x hx256 v HV.out _).mono ?_)
              rintro e w3 ⟨rfl,hb3⟩
              have HD3:=Lib.hid (HD.out.drew.next hb3)
              have HAt3:=Lib.hid (HAt.out.drew.below hb3 (At.lt HAt.out.drew))
              have HB3:=Lib.hid (below_step HB.out hb3 rfl rfl rfl rfl)
              have s5:=HD3.out.cellTop hlt
              obtain ⟨_,s1,s2,s3,s4,_,_,_,_⟩:=At.tr_cells HAt3.out
              have sb:=((bcell hb3).1 b (off+i) (by have:=HB.out.size;simp;omega)).trans q1
              have s6:=HD3.out.cellRow hlt hlt1
              have s7:=HD3.out.freeRow hlt (i+1)
              clear hb3 q1 q5 c1 c2 c3 c4))
          go_wp2_with fail
          go_roundw
          case rel=>exact ⟨i+1,by omega,by go_num,Lib.hid ((HD3.out.put (i+1) hlt v).congr (fun i' j' _ _=>diagTo_step (fun j hj=>byte_off hj) (byte_at hml HX.out HV.out.symm) i' j')),Lib.hid (HAt3.out.other hr3.symm _),Lib.hid (HB3.out.setCell hr2 _)⟩
          case measure=>simp[intOf];omega
        · obtain rfl:i=wl:=by omega
          go_wp2_with fail
          go_ret
          exact ⟨g2,r2,rfl,by rw[HS.out];exact HD.out.congr (fun i' j' h _=>by unfold diagTo;split;rfl;exact (byte_last (by have:=HWl.out;omega)).symm),HB.out⟩
theorem refSpans (l:List Nat):∀k,SpansAt k l
  | 0=>fun _ _ _ _ h=>h.elim
  | k+1=>fun t A c w h hs hf hw h10=>by
    have ih:=refSpans l k
    have hr:0≤t.kind∧t.kind≤11:=(of_decide_eq_true (formed_own hf)).1
    by_cases h0:t.kind=0
    · exact spansAt_0 k l ih t A c w h hs hf hw h10 h0
    by_cases h1:t.kind=1
    · exact spansAt_1 k l ih t A c w h hs hf hw h10 h1
    by_cases h2:t.kind=2
    · exact spansAt_2 k l ih t A c w h hs hf hw h10 h2
    by_cases h3:t.kind=3
    · exact spansAt_3 k l ih t A c w h hs hf hw h10 h3
    by_cases h4:t.kind=4
    · exact spansAt_4 k l ih t A c w h hs hf hw h10 h4
    by_cases h5:t.kind=5
    · exact spansAt_5 k l ih t A c w h hs hf hw h10 h5
    by_cases h6:t.kind=6
    · exact spansAt_6 k l ih t A c w h hs hf hw h10 h6
    by_cases h7:t.kind=7
    · exact spansAt_7 k l ih t A c w h hs hf hw h10 h7
    by_cases h8:t.kind=8
    · exact spansAt_8 k l ih t A c w h hs hf hw h10 h8
    by_cases h9:t.kind=9
    · exact spansAt_9 k l ih t A c w h hs hf hw h10 h9
    by_cases h10':t.kind=10
    · exact spansAt_10 k l ih t A c w h hs hf hw h10 h10'
    · exact spansAt_11 k l ih t A c w h hs hf hw h10 (by omega)
end Go.Proofs.YtgmpfnfomgadeaaGreat
