/- bolterref09.Spans: what each node matches, as tables. -/
import Derived.Test.YtgmpfnfomgadeaaGreatMad
import Derived.Test.YtgmpfnfomgadeaaGreatMah
import Derived.StillTailTactics
import Derived.Deep.RegionHeld3
set_option linter.unusedSimpArgs false
set_option linter.unusedVariables false
set_option maxHeartbeats 16000000
set_option maxRecDepth 100000
namespace Go.Proofs.YtgmpfnfomgadeaaGreat
open Go.RowKit
theorem shut_map {x:Nat} {a:Nat} {neg:Bool} {bits:List Nat} {i:Nat} (hx:(bits[i]?).getD 0=x):(decide (x >>> a % 2=1) != neg)=bitF bits a neg i i:=by
  unfold bitF;rw[decide_eq_true rfl,Bool.true_and,hx]
theorem low_bit:∀z:Nat,z<256→(Go.bits .and .u8 (z:Int) 1==1)=decide (z % 2=1):=by decide +kernel
theorem shut_shr (y ka:Nat) (hy:y<256) (hk:ka<4):(Go.bits .and .u8 ((y:Int) / 2 ^ min ka 8) 1==1)=decide (y >>> ka % 2=1):=by
  have h1:((y:Int) / 2 ^ min ka 8)=((y >>> ka:Nat):Int):=by
    rw[Nat.min_eq_left (by omega),Nat.shiftRight_eq_div_pow,Int.natCast_ediv,Int.natCast_pow];rfl
  rw[h1];exact low_bit _ (Nat.lt_of_le_of_lt (Nat.shiftRight_le _ _) hy)
theorem shut_map' {y ka:Nat} {neg:Bool} {bits:List Nat} {i:Nat} (hy:y<256) (hk:ka<4) (hx:(bits[i]?).getD 0=y):(!((Go.bits .and .u8 ((y:Int) / 2 ^ min ka 8) 1==1)==neg))=bitF bits ka neg i i:=by
  rw[shut_shr y ka hy hk];exact shut_map hx
theorem bit_off {bits:List Nat} {a:Nat} {neg:Bool} {i j:Nat} (h:j≠i):bitF bits a neg i j=false:=by unfold bitF;rw[decide_eq_false (fun q=>h q.symm),Bool.false_and]
theorem TabIn.drew' {w:World} {E B:TypeId} {g n:Nat} {f:Nat→Nat→Bool} (h:TabIn w E B g n f):TabIn w.drew E B g n f:=by obtain ⟨r,h⟩:=h;exact ⟨r,h.drew⟩
theorem TabsAt.drew' {w:World} {base n:Nat} {v:Value} {ts:List TG} {fs:List (Nat→Nat→Bool)} (h:TabsAt w base v n ts fs):TabsAt w.drew base v n ts fs:=h.next (Below.drew (Below.refl _ _))
theorem fAt_is {fs:List (Nat→Nat→Bool)} {k:Nat} (h:k<fs.length):fAt fs (k:Int)=fs[k]:=by unfold fAt;rw[Int.toNat_natCast,List.getElem?_eq_getElem h];rfl
theorem refNodeSpans (ns:List Nd) (l bits:List Nat) (v0:Value) (A B:Option Addr) (ca cb:Nat) (n:Nat) (hn:n=l.length+1) (hl10:l.length≤100) (hns:ns.length≤100000) (hok:∀j,j<ns.length→NdOk (ndAt ns j) j) (w:World)
    (hv:NdsAt w v0 ns) (hb:IsBytes w A l.length l) (hbits:IsBytes w B n bits) :
    Calls Tryz.prog 12 #[v0,.slice A l.length ca,.slice B n cb] w fun e w'=>∃v ts,e=.returned v∧TabsAt w' w.heap.size v n ts (nodesF l bits ns ns.length)∧Below w.heap.size w w':=by
  obtain ⟨A0,c0,rfl,_,_⟩:=id hv
  obtain ⟨wl,hwl⟩:∃wl,wl=l.length:=⟨_,rfl⟩
  rw[←hwl] at hn hl10 hb ⊢
  have HWl:=Lib.hid hwl
  have HN1:=Lib.hid hn
  have HNW:Hid (l.length+1=n):=Lib.hid (by omega)
  have hn1000:n≤1000:=by omega
  have HV:=Lib.hid hv
  have HBy:=Lib.hid hb
  have HBi:=Lib.hid hbits
  have HOKs:=Lib.hid hok
  clear hv hb hbits hok hwl hn
  obtain ⟨i0,hi0,hz0,hz1,hz2⟩:=info_parts info_table
  go_enter Tryz.func12,Tryz.ntmps12
  go_wp2_with fail
  go_loopw [8,19] (fun v x wr=>∃(j:Nat) (ts:List TG),j≤ns.length∧x=.int .i64 j∧ts.length=j∧Hid (TabsAt wr w.heap.size v n ts (nodesF l bits ns j))∧Hid (Below w.heap.size w wr)) (fun _ x _=>ns.length-(intOf x).toNat)
  case atStart=>exact ⟨0,[],Nat.zero_le _,rfl,rfl,Lib.hid (TabsAt.nil _ _ _),Lib.hid (Below.refl _ _)⟩
  case round =>
    obtain ⟨j,ts,hj,rfl,htl,HTs,HB⟩:=hrel
    by_cases hjl:j<ns.length
    · have hjz:(0:Int)≤(j:Int):=by omega
      have hjn:(j:Int)<(ns.length:Int):=by omega
      obtain ⟨A',cap,e1,_,h3⟩:=HV.out.next HB.out
      injection e1 with e1 _ e3
      subst e1
      subst e3
      obtain ⟨b,off,rfl,hbb,hr⟩:=h3 (by omega)
      have HR:=Lib.hid (hr j hjl)
      have HOK:=Lib.hid (HOKs.out j hjl)
      obtain ⟨x,hx⟩:∃x,ndAt ns j=x:=⟨_,rfl⟩
      have HNX:=Lib.hid hx
      rw[hx] at HR HOK
      clear hr hbb h3 hx
      have hone:=Nd.one x
      have hbx:=boxN_next wr x
      have HXb:=Lib.hid (boxN_at wr x)
      have HBb:=Lib.hid hbx
      have HTsb:=Lib.hid (HTs.out.next hbx)
      clear hbx
      go_wp2_with (first
        | (with_reducible show wpList _ _ _ (⟨some 25,.load _ _,_,_,_,_⟩::_) _ _
           refine wpList_load_mid rfl 61 _ rfl b (off+j*8) rfl x.cs _ HR.out Tryz.underlying61 rfl (by rw[Nd.cs_length];kernel_rfl) ?_)
        | (with_reducible show wpList _ _ _ (⟨none,.store _ _ _,_,_,_,_⟩::_) _ _
           refine wpList_store_row rfl 61 _ _ rfl wr.heap.size x.cs.toArray rfl rfl 61 Nd.zero.cs.toArray (At.new _ _ _) (by kernel_rfl) rfl hone ?_
           change Exit.then _ _ _ _ (boxN wr x))
        | fail)
      refine (refBlankI n hn1000 _ (by have:=HN1.out;omega) (boxN wr x)).mono ?_
      rintro e w4 ⟨g2,r2,rfl,ht4,hb4⟩
      have HX4:=Lib.hid (At.below HXb.out hb4 HXb.out.lt)
      have HTs4:=Lib.hid (HTsb.out.next hb4)
      have HB4:=Lib.hid (HBb.out.trans (hb4.mono HBb.out.size))
      have HT4:=Lib.hid (ht4.lower HBb.out.size)
      clear ht4 hb4 hone HR
      by_cases hk1:x.kind=1
      · have HKd:=Lib.hid hk1
        have ck:=(Nd.cells HX4.out).1
        rw[hk1] at ck
        clear hk1
        go_wp2_with fail
        refine (refOneI n hn1000 _ (by have:=HN1.out;omega) w4).mono ?_
        rintro e w5 ⟨g2,r2,rfl,ht2,hb5⟩
        have HBq:=Lib.hid (HB4.out.trans (hb5.mono HB4.out.size))
        have HT2:=Lib.hid (ht2.lower HB4.out.size)
        have HTs2:=Lib.hid (HTs4.out.next hb5)
        clear ht2 hb5
        have HF:Hid (nodeF l bits (nodesF l bits ns j) x=eqF):=Lib.hid (by unfold nodeF;simp[HKd.out])
        have HNew:Hid (∀bb,u8.ownBlock=some bb→g2≠bb∧∀i,i<n→r2 i≠bb):=Lib.hid (fun bb hbb=>by
          have hlt2:=(World.ownsRow.lt HTs.out.own bb hbb).2
          exact ⟨by have:=HT2.out.low;omega,fun i hi=>by have:=(HT2.out.rlow i hi).1;omega⟩)
        have hw5:=HBq.out.size
        have hwr:=HB.out.size
        go_wp2_with (first
          | (at_builtin
             refine wpList_append_lies _ rfl _ _ _ rfl w.heap.size 44 i0 _ 1 24 Tryz.underlying45 hi0 hz0 hz1 hz2 rfl (by omega) u8 _ _ rfl (HTs2.out.next ((Below.refl _ _).alloc (Nat.le_refl _) _)).own ⟨w5.heap.size,0,none⟩ 1 1 [tv n (g2,r2)] rfl rfl ?c1 ?c2 (by omega) ?c3 ?c4 ?c5 _ rfl ?_
             case c1=>exact (cell_one_new _ _ _)
             case c2=>simp[Value.oneCell',tv]
             case c3=>unfold maxLen;omega
             case c4=>omega
             case c5=>simp;omega
             intro g cap w6 hown6 hg6 hat6 hlt6)
          | fail)
        refine ⟨⟨j+1,ts++[(g2,r2)],by omega,by go_num,by simp[htl],Lib.hid ?_,Lib.hid ?_⟩,by simp[intOf];omega⟩
        · have hpush:=TabsAt.push (HTs2.out.next ((Below.refl _ _).alloc (Nat.le_refl _) _)) ((HT2.out.lower hwr).next ((Below.refl _ _).alloc (Nat.le_refl _) _)) hown6 hg6 hat6 (Nat.le_refl _) HNew.out
          rw[htl] at hpush
          show TabsAt _ _ _ _ _ (nodesF l bits ns j++[nodeF l bits (nodesF l bits ns j) (ndAt ns j)])
          rw[HNX.out,HF.out]
          exact hpush
        · exact below_grown' ((HB.out.trans (HBq.out.mono hwr)).alloc (by omega) _) (by simp;omega) hg6 (fun bb hbb=>by have:=(World.ownsRow.lt HTs.out.own bb hbb).1;omega)
      by_cases hk3:x.kind=3
      · have HKd:=Lib.hid hk3
        have ck:=(Nd.cells HX4.out).1
        rw[hk3] at ck
        clear hk3
        have hab:=HOK.out.2.1 (by have:=HKd.out;omega)
        obtain ⟨gu,capu,hvu,hgu,hgul⟩:=HTs4.out.form (by omega)
        rw[htl] at hvu
        subst hvu
        obtain ⟨ka,hka⟩:∃q:Nat,x.a=(q:Int):=⟨x.a.toNat,by omega⟩
        have hla:ka<ts.length:=by omega
        have hfa:ka<(nodesF l bits ns j).length:=by rw[nodesF_length];omega
        have HAa:=Lib.hid (fAt_is hfa)
        have qa:=HTs4.out.cell ka hla
        have HTIa:=Lib.hid (HTs4.out.tab ka hla hfa).tin
        have hza:(0:Int)≤(ka:Int):=by omega
        have hna:(ka:Int)<(j:Int):=by omega
        obtain ⟨kb,hkb⟩:∃q:Nat,x.b=(q:Int):=⟨x.b.toNat,by omega⟩
        have hlb:kb<ts.length:=by omega
        have hfb:kb<(nodesF l bits ns j).length:=by rw[nodesF_length];omega
        have HAb:=Lib.hid (fAt_is hfb)
        have qb:=HTs4.out.cell kb hlb
        have HTIb:=Lib.hid (HTs4.out.tab kb hlb hfb).tin
        have hzb:(0:Int)≤(kb:Int):=by omega
        have hnb:(kb:Int)<(j:Int):=by omega
        have c5:=(Nd.cells HX4.out).2.2.2.2.2.1
        have c6:=(Nd.cells HX4.out).2.2.2.2.2.2.1
        rw[hka] at c5
        rw[hkb] at c6
        have HKK:Hid (x.a=(ka:Int)∧x.b=(kb:Int)):=Lib.hid ⟨hka,hkb⟩
        clear hab hka hkb
        go_wp2_with fail
        go_still_tail 10,(by kernel_rfl)
        change wpList _ _ _ _ _ w4.drew
        go_wp2_with fail
        refine (refThen n ts[ka].1 ts[kb].1 _ _ hn1000 w4.drew (HTIa.out.drew') (HTIb.out.drew')).mono ?_
        rintro e w5 ⟨g2,r2,rfl,ht2,hb5⟩
        have HBq:=Lib.hid (HB4.out.drew.trans (hb5.mono HB4.out.size))
        have HT2:=Lib.hid (ht2.lower (show wr.heap.size≤w4.drew.heap.size from HB4.out.size))
        have HTs2:=Lib.hid ((HTs4.out.drew').next hb5)
        clear ht2 hb5
        have HF:Hid (nodeF l bits (nodesF l bits ns j) x=thenF (nodesF l bits ns j)[ka] (nodesF l bits ns j)[kb] n):=Lib.hid (by unfold nodeF;simp[HKd.out,HKK.out.1,HKK.out.2,HAa.out,HAb.out,HNW.out])
        have HNew:Hid (∀bb,(Value.slice (some ⟨gu,0,none⟩) j capu).ownBlock=some bb→g2≠bb∧∀i,i<n→r2 i≠bb):=Lib.hid (fun bb hbb=>by
          have hlt2:=(World.ownsRow.lt HTs.out.own bb hbb).2
          exact ⟨by have:=HT2.out.low;omega,fun i hi=>by have:=(HT2.out.rlow i hi).1;omega⟩)
        have hw5:=HBq.out.size
        have hwr:=HB.out.size
        go_wp2_with (first
          | (at_builtin
             refine wpList_append_lies _ rfl _ _ _ rfl w.heap.size 44 i0 _ 1 24 Tryz.underlying45 hi0 hz0 hz1 hz2 rfl (by omega) (Value.slice (some ⟨gu,0,none⟩) j capu) _ _ rfl (HTs2.out.next ((Below.refl _ _).alloc (Nat.le_refl _) _)).own ⟨w5.heap.size,0,none⟩ 1 1 [tv n (g2,r2)] rfl rfl ?c1 ?c2 (by omega) ?c3 ?c4 ?c5 _ rfl ?_
             case c1=>exact (cell_one_new _ _ _)
             case c2=>simp[Value.oneCell',tv]
             case c3=>unfold maxLen;omega
             case c4=>omega
             case c5=>simp;omega
             intro g cap w6 hown6 hg6 hat6 hlt6)
          | fail)
        refine ⟨⟨j+1,ts++[(g2,r2)],by omega,by go_num,by simp[htl],Lib.hid ?_,Lib.hid ?_⟩,by simp[intOf];omega⟩
        · have hpush:=TabsAt.push (HTs2.out.next ((Below.refl _ _).alloc (Nat.le_refl _) _)) ((HT2.out.lower hwr).next ((Below.refl _ _).alloc (Nat.le_refl _) _)) hown6 hg6 hat6 (Nat.le_refl _) HNew.out
          rw[htl] at hpush
          show TabsAt _ _ _ _ _ (nodesF l bits ns j++[nodeF l bits (nodesF l bits ns j) (ndAt ns j)])
          rw[HNX.out,HF.out]
          exact hpush
        · exact below_grown' ((HB.out.trans (HBq.out.mono hwr)).alloc (by omega) _) (by simp;omega) hg6 (fun bb hbb=>by have:=(World.ownsRow.lt HTs.out.own bb hbb).1;omega)
      by_cases hk4:x.kind=4
      · have HKd:=Lib.hid hk4
        have ck:=(Nd.cells HX4.out).1
        rw[hk4] at ck
        clear hk4
        have hab:=HOK.out.2.1 (by have:=HKd.out;omega)
        obtain ⟨gu,capu,hvu,hgu,hgul⟩:=HTs4.out.form (by omega)
        rw[htl] at hvu
        subst hvu
        obtain ⟨ka,hka⟩:∃q:Nat,x.a=(q:Int):=⟨x.a.toNat,by omega⟩
        have hla:ka<ts.length:=by omega
        have hfa:ka<(nodesF l bits ns j).length:=by rw[nodesF_length];omega
        have HAa:=Lib.hid (fAt_is hfa)
        have qa:=HTs4.out.cell ka hla
        have HTIa:=Lib.hid (HTs4.out.tab ka hla hfa).tin
        have hza:(0:Int)≤(ka:Int):=by omega
        have hna:(ka:Int)<(j:Int):=by omega
        obtain ⟨kb,hkb⟩:∃q:Nat,x.b=(q:Int):=⟨x.b.toNat,by omega⟩
        have hlb:kb<ts.length:=by omega
        have hfb:kb<(nodesF l bits ns j).length:=by rw[nodesF_length];omega
        have HAb:=Lib.hid (fAt_is hfb)
        have qb:=HTs4.out.cell kb hlb
        have HTIb:=Lib.hid (HTs4.out.tab kb hlb hfb).tin
        have hzb:(0:Int)≤(kb:Int):=by omega
        have hnb:(kb:Int)<(j:Int):=by omega
        have c5:=(Nd.cells HX4.out).2.2.2.2.2.1
        have c6:=(Nd.cells HX4.out).2.2.2.2.2.2.1
        rw[hka] at c5
        rw[hkb] at c6
        have HKK:Hid (x.a=(ka:Int)∧x.b=(kb:Int)):=Lib.hid ⟨hka,hkb⟩
        clear hab hka hkb
        go_wp2_with fail
        go_still_tail 10,(by kernel_rfl)
        change wpList _ _ _ _ _ w4.drew
        go_wp2_with fail
        refine (refEither n ts[ka].1 ts[kb].1 _ _ hn1000 w4.drew (HTIa.out.drew') (HTIb.out.drew')).mono ?_
        rintro e w5 ⟨g2,r2,rfl,ht2,hb5⟩
        have HBq:=Lib.hid (HB4.out.drew.trans (hb5.mono HB4.out.size))
        have HT2:=Lib.hid (ht2.lower (show wr.heap.size≤w4.drew.heap.size from HB4.out.size))
        have HTs2:=Lib.hid ((HTs4.out.drew').next hb5)
        clear ht2 hb5
        have HF:Hid (nodeF l bits (nodesF l bits ns j) x=fun i1 j1=>(nodesF l bits ns j)[ka] i1 j1||(nodesF l bits ns j)[kb] i1 j1):=Lib.hid (by unfold nodeF;simp[HKd.out,HKK.out.1,HKK.out.2,HAa.out,HAb.out,HNW.out])
        have HNew:Hid (∀bb,(Value.slice (some ⟨gu,0,none⟩) j capu).ownBlock=some bb→g2≠bb∧∀i,i<n→r2 i≠bb):=Lib.hid (fun bb hbb=>by
          have hlt2:=(World.ownsRow.lt HTs.out.own bb hbb).2
          exact ⟨by have:=HT2.out.low;omega,fun i hi=>by have:=(HT2.out.rlow i hi).1;omega⟩)
        have hw5:=HBq.out.size
        have hwr:=HB.out.size
        go_wp2_with (first
          | (at_builtin
             refine wpList_append_lies _ rfl _ _ _ rfl w.heap.size 44 i0 _ 1 24 Tryz.underlying45 hi0 hz0 hz1 hz2 rfl (by omega) (Value.slice (some ⟨gu,0,none⟩) j capu) _ _ rfl (HTs2.out.next ((Below.refl _ _).alloc (Nat.le_refl _) _)).own ⟨w5.heap.size,0,none⟩ 1 1 [tv n (g2,r2)] rfl rfl ?c1 ?c2 (by omega) ?c3 ?c4 ?c5 _ rfl ?_
             case c1=>exact (cell_one_new _ _ _)
             case c2=>simp[Value.oneCell',tv]
             case c3=>unfold maxLen;omega
             case c4=>omega
             case c5=>simp;omega
             intro g cap w6 hown6 hg6 hat6 hlt6)
          | fail)
        refine ⟨⟨j+1,ts++[(g2,r2)],by omega,by go_num,by simp[htl],Lib.hid ?_,Lib.hid ?_⟩,by simp[intOf];omega⟩
        · have hpush:=TabsAt.push (HTs2.out.next ((Below.refl _ _).alloc (Nat.le_refl _) _)) ((HT2.out.lower hwr).next ((Below.refl _ _).alloc (Nat.le_refl _) _)) hown6 hg6 hat6 (Nat.le_refl _) HNew.out
          rw[htl] at hpush
          show TabsAt _ _ _ _ _ (nodesF l bits ns j++[nodeF l bits (nodesF l bits ns j) (ndAt ns j)])
          rw[HNX.out,HF.out]
          exact hpush
        · exact below_grown' ((HB.out.trans (HBq.out.mono hwr)).alloc (by omega) _) (by simp;omega) hg6 (fun bb hbb=>by have:=(World.ownsRow.lt HTs.out.own bb hbb).1;omega)
      by_cases hk5:x.kind=5
      · have HKd:=Lib.hid hk5
        have ck:=(Nd.cells HX4.out).1
        rw[hk5] at ck
        clear hk5
        have hab:=HOK.out.2.1 (by have:=HKd.out;omega)
        obtain ⟨gu,capu,hvu,hgu,hgul⟩:=HTs4.out.form (by omega)
        rw[htl] at hvu
        subst hvu
        obtain ⟨ka,hka⟩:∃q:Nat,x.a=(q:Int):=⟨x.a.toNat,by omega⟩
        have hla:ka<ts.length:=by omega
        have hfa:ka<(nodesF l bits ns j).length:=by rw[nodesF_length];omega
        have HAa:=Lib.hid (fAt_is hfa)
        have qa:=HTs4.out.cell ka hla
        have HTIa:=Lib.hid (HTs4.out.tab ka hla hfa).tin
        have hza:(0:Int)≤(ka:Int):=by omega
        have hna:(ka:Int)<(j:Int):=by omega
        obtain ⟨kb,hkb⟩:∃q:Nat,x.b=(q:Int):=⟨x.b.toNat,by omega⟩
        have hlb:kb<ts.length:=by omega
        have hfb:kb<(nodesF l bits ns j).length:=by rw[nodesF_length];omega
        have HAb:=Lib.hid (fAt_is hfb)
        have qb:=HTs4.out.cell kb hlb
        have HTIb:=Lib.hid (HTs4.out.tab kb hlb hfb).tin
        have hzb:(0:Int)≤(kb:Int):=by omega
        have hnb:(kb:Int)<(j:Int):=by omega
        have c5:=(Nd.cells HX4.out).2.2.2.2.2.1
        have c6:=(Nd.cells HX4.out).2.2.2.2.2.2.1
        rw[hka] at c5
        rw[hkb] at c6
        have HKK:Hid (x.a=(ka:Int)∧x.b=(kb:Int)):=Lib.hid ⟨hka,hkb⟩
        clear hab hka hkb
        go_wp2_with fail
        go_still_tail 10,(by kernel_rfl)
        change wpList _ _ _ _ _ w4.drew
        go_wp2_with fail
        refine (refBoth n ts[ka].1 ts[kb].1 _ _ hn1000 w4.drew (HTIa.out.drew') (HTIb.out.drew')).mono ?_
        rintro e w5 ⟨g2,r2,rfl,ht2,hb5⟩
        have HBq:=Lib.hid (HB4.out.drew.trans (hb5.mono HB4.out.size))
        have HT2:=Lib.hid (ht2.lower (show wr.heap.size≤w4.drew.heap.size from HB4.out.size))
        have HTs2:=Lib.hid ((HTs4.out.drew').next hb5)
        clear ht2 hb5
        have HF:Hid (nodeF l bits (nodesF l bits ns j) x=fun i1 j1=>(nodesF l bits ns j)[ka] i1 j1&&(nodesF l bits ns j)[kb] i1 j1):=Lib.hid (by unfold nodeF;simp[HKd.out,HKK.out.1,HKK.out.2,HAa.out,HAb.out,HNW.out])
        have HNew:Hid (∀bb,(Value.slice (some ⟨gu,0,none⟩) j capu).ownBlock=some bb→g2≠bb∧∀i,i<n→r2 i≠bb):=Lib.hid (fun bb hbb=>by
          have hlt2:=(World.ownsRow.lt HTs.out.own bb hbb).2
          exact ⟨by have:=HT2.out.low;omega,fun i hi=>by have:=(HT2.out.rlow i hi).1;omega⟩)
        have hw5:=HBq.out.size
        have hwr:=HB.out.size
        go_wp2_with (first
          | (at_builtin
             refine wpList_append_lies _ rfl _ _ _ rfl w.heap.size 44 i0 _ 1 24 Tryz.underlying45 hi0 hz0 hz1 hz2 rfl (by omega) (Value.slice (some ⟨gu,0,none⟩) j capu) _ _ rfl (HTs2.out.next ((Below.refl _ _).alloc (Nat.le_refl _) _)).own ⟨w5.heap.size,0,none⟩ 1 1 [tv n (g2,r2)] rfl rfl ?c1 ?c2 (by omega) ?c3 ?c4 ?c5 _ rfl ?_
             case c1=>exact (cell_one_new _ _ _)
             case c2=>simp[Value.oneCell',tv]
             case c3=>unfold maxLen;omega
             case c4=>omega
             case c5=>simp;omega
             intro g cap w6 hown6 hg6 hat6 hlt6)
          | fail)
        refine ⟨⟨j+1,ts++[(g2,r2)],by omega,by go_num,by simp[htl],Lib.hid ?_,Lib.hid ?_⟩,by simp[intOf];omega⟩
        · have hpush:=TabsAt.push (HTs2.out.next ((Below.refl _ _).alloc (Nat.le_refl _) _)) ((HT2.out.lower hwr).next ((Below.refl _ _).alloc (Nat.le_refl _) _)) hown6 hg6 hat6 (Nat.le_refl _) HNew.out
          rw[htl] at hpush
          show TabsAt _ _ _ _ _ (nodesF l bits ns j++[nodeF l bits (nodesF l bits ns j) (ndAt ns j)])
          rw[HNX.out,HF.out]
          exact hpush
        · exact below_grown' ((HB.out.trans (HBq.out.mono hwr)).alloc (by omega) _) (by simp;omega) hg6 (fun bb hbb=>by have:=(World.ownsRow.lt HTs.out.own bb hbb).1;omega)
      by_cases hk6:x.kind=6
      · have HKd:=Lib.hid hk6
        have ck:=(Nd.cells HX4.out).1
        rw[hk6] at ck
        clear hk6
        have hab:=HOK.out.2.2.1 (by have:=HKd.out;omega)
        obtain ⟨gu,capu,hvu,hgu,hgul⟩:=HTs4.out.form (by omega)
        rw[htl] at hvu
        subst hvu
        obtain ⟨ka,hka⟩:∃q:Nat,x.a=(q:Int):=⟨x.a.toNat,by omega⟩
        have hla:ka<ts.length:=by omega
        have hfa:ka<(nodesF l bits ns j).length:=by rw[nodesF_length];omega
        have HAa:=Lib.hid (fAt_is hfa)
        have qa:=HTs4.out.cell ka hla
        have HTIa:=Lib.hid (HTs4.out.tab ka hla hfa).tin
        have hza:(0:Int)≤(ka:Int):=by omega
        have hna:(ka:Int)<(j:Int):=by omega
        have c5:=(Nd.cells HX4.out).2.2.2.2.2.1
        rw[hka] at c5
        have HKK:Hid (x.a=(ka:Int)):=Lib.hid hka
        clear hab hka
        go_wp2_with fail
        refine (refOther n ts[ka].1 _ hn1000 w4 HTIa.out).mono ?_
        rintro e w5 ⟨g2,r2,rfl,ht2,hb5⟩
        have HBq:=Lib.hid (HB4.out.trans (hb5.mono HB4.out.size))
        have HT2:=Lib.hid (ht2.lower HB4.out.size)
        have HTs2:=Lib.hid (HTs4.out.next hb5)
        clear ht2 hb5
        have HF:Hid (nodeF l bits (nodesF l bits ns j) x=otherF (nodesF l bits ns j)[ka]):=Lib.hid (by unfold nodeF;simp[HKd.out,HKK.out,HAa.out,HNW.out])
        have HNew:Hid (∀bb,(Value.slice (some ⟨gu,0,none⟩) j capu).ownBlock=some bb→g2≠bb∧∀i,i<n→r2 i≠bb):=Lib.hid (fun bb hbb=>by
          have hlt2:=(World.ownsRow.lt HTs.out.own bb hbb).2
          exact ⟨by have:=HT2.out.low;omega,fun i hi=>by have:=(HT2.out.rlow i hi).1;omega⟩)
        have hw5:=HBq.out.size
        have hwr:=HB.out.size
        go_wp2_with (first
          | (at_builtin
             refine wpList_append_lies _ rfl _ _ _ rfl w.heap.size 44 i0 _ 1 24 Tryz.underlying45 hi0 hz0 hz1 hz2 rfl (by omega) (Value.slice (some ⟨gu,0,none⟩) j capu) _ _ rfl (HTs2.out.next ((Below.refl _ _).alloc (Nat.le_refl _) _)).own ⟨w5.heap.size,0,none⟩ 1 1 [tv n (g2,r2)] rfl rfl ?c1 ?c2 (by omega) ?c3 ?c4 ?c5 _ rfl ?_
             case c1=>exact (cell_one_new _ _ _)
             case c2=>simp[Value.oneCell',tv]
             case c3=>unfold maxLen;omega
             case c4=>omega
             case c5=>simp;omega
             intro g cap w6 hown6 hg6 hat6 hlt6)
          | fail)
        refine ⟨⟨j+1,ts++[(g2,r2)],by omega,by go_num,by simp[htl],Lib.hid ?_,Lib.hid ?_⟩,by simp[intOf];omega⟩
        · have hpush:=TabsAt.push (HTs2.out.next ((Below.refl _ _).alloc (Nat.le_refl _) _)) ((HT2.out.lower hwr).next ((Below.refl _ _).alloc (Nat.le_refl _) _)) hown6 hg6 hat6 (Nat.le_refl _) HNew.out
          rw[htl] at hpush
          show TabsAt _ _ _ _ _ (nodesF l bits ns j++[nodeF l bits (nodesF l bits ns j) (ndAt ns j)])
          rw[HNX.out,HF.out]
          exact hpush
        · exact below_grown' ((HB.out.trans (HBq.out.mono hwr)).alloc (by omega) _) (by simp;omega) hg6 (fun bb hbb=>by have:=(World.ownsRow.lt HTs.out.own bb hbb).1;omega)
      by_cases hk7:x.kind=7
      · have HKd:=Lib.hid hk7
        have ck:=(Nd.cells HX4.out).1
        rw[hk7] at ck
        clear hk7
        have hab:=HOK.out.2.2.1 (by have:=HKd.out;omega)
        obtain ⟨gu,capu,hvu,hgu,hgul⟩:=HTs4.out.form (by omega)
        rw[htl] at hvu
        subst hvu
        obtain ⟨ka,hka⟩:∃q:Nat,x.a=(q:Int):=⟨x.a.toNat,by omega⟩
        have hla:ka<ts.length:=by omega
        have hfa:ka<(nodesF l bits ns j).length:=by rw[nodesF_length];omega
        have HAa:=Lib.hid (fAt_is hfa)
        have qa:=HTs4.out.cell ka hla
        have HTIa:=Lib.hid (HTs4.out.tab ka hla hfa).tin
        have hza:(0:Int)≤(ka:Int):=by omega
        have hna:(ka:Int)<(j:Int):=by omega
        have c5:=(Nd.cells HX4.out).2.2.2.2.2.1
        rw[hka] at c5
        have HKK:Hid (x.a=(ka:Int)):=Lib.hid hka
        clear hab hka
        go_wp2_with fail
        refine (refAny n ts[ka].1 _ hn1000 w4 HTIa.out).mono ?_
        rintro e w5 ⟨g2,r2,rfl,ht2,hb5⟩
        have HBq:=Lib.hid (HB4.out.trans (hb5.mono HB4.out.size))
        have HT2:=Lib.hid (ht2.lower HB4.out.size)
        have HTs2:=Lib.hid (HTs4.out.next hb5)
        clear ht2 hb5
        have HF:Hid (nodeF l bits (nodesF l bits ns j) x=anyTo (nodesF l bits ns j)[ka] n n):=Lib.hid (by unfold nodeF;simp[HKd.out,HKK.out,HAa.out,HNW.out])
        have HNew:Hid (∀bb,(Value.slice (some ⟨gu,0,none⟩) j capu).ownBlock=some bb→g2≠bb∧∀i,i<n→r2 i≠bb):=Lib.hid (fun bb hbb=>by
          have hlt2:=(World.ownsRow.lt HTs.out.own bb hbb).2
          exact ⟨by have:=HT2.out.low;omega,fun i hi=>by have:=(HT2.out.rlow i hi).1;omega⟩)
        have hw5:=HBq.out.size
        have hwr:=HB.out.size
        go_wp2_with (first
          | (at_builtin
             refine wpList_append_lies _ rfl _ _ _ rfl w.heap.size 44 i0 _ 1 24 Tryz.underlying45 hi0 hz0 hz1 hz2 rfl (by omega) (Value.slice (some ⟨gu,0,none⟩) j capu) _ _ rfl (HTs2.out.next ((Below.refl _ _).alloc (Nat.le_refl _) _)).own ⟨w5.heap.size,0,none⟩ 1 1 [tv n (g2,r2)] rfl rfl ?c1 ?c2 (by omega) ?c3 ?c4 ?c5 _ rfl ?_
             case c1=>exact (cell_one_new _ _ _)
             case c2=>simp[Value.oneCell',tv]
             case c3=>unfold maxLen;omega
             case c4=>omega
             case c5=>simp;omega
             intro g cap w6 hown6 hg6 hat6 hlt6)
          | fail)
        refine ⟨⟨j+1,ts++[(g2,r2)],by omega,by go_num,by simp[htl],Lib.hid ?_,Lib.hid ?_⟩,by simp[intOf];omega⟩
        · have hpush:=TabsAt.push (HTs2.out.next ((Below.refl _ _).alloc (Nat.le_refl _) _)) ((HT2.out.lower hwr).next ((Below.refl _ _).alloc (Nat.le_refl _) _)) hown6 hg6 hat6 (Nat.le_refl _) HNew.out
          rw[htl] at hpush
          show TabsAt _ _ _ _ _ (nodesF l bits ns j++[nodeF l bits (nodesF l bits ns j) (ndAt ns j)])
          rw[HNX.out,HF.out]
          exact hpush
        · exact below_grown' ((HB.out.trans (HBq.out.mono hwr)).alloc (by omega) _) (by simp;omega) hg6 (fun bb hbb=>by have:=(World.ownsRow.lt HTs.out.own bb hbb).1;omega)
      by_cases hk2:x.kind=2
      · have HKd:=Lib.hid hk2
        have ck:=(Nd.cells HX4.out).1
        rw[hk2] at ck
        clear hk2
        have HD:=Lib.hid (HT4.out.congr (fun i j _ _=>(diagTo_zero (byteF x.set l) i j).symm))
        clear HTs4
        obtain ⟨wo,rfl⟩:∃wo:World,wo=wr:=⟨_,rfl⟩
        go_wp2_with fail
        go_loopw [38] (fun y wr=>∃i:Nat,i≤wl∧y=.int .i64 i∧Hid (TabAt wr 51 4 wo.heap.size g2 n r2 (diagTo (byteF x.set l) i))∧Hid (At wr wo.heap.size 61 x.cs.toArray)∧Hid (Below wo.heap.size wo wr)) (fun y _=>wl-(intOf y).toNat)
        case atStart=>exact ⟨0,Nat.zero_le _,rfl,HD,HX4,HB4⟩
        case round =>
          clear HD HX4 HB4 HT4 ck
          obtain ⟨i,hi,rfl,HD,HX4,HB4⟩:=hrel
          by_cases hlt0:i<wl
          · have hlt:i<n:=by have:=HN1.out;omega
            have hlt1:i+1<n:=by have:=HN1.out;omega
            have hin:(i:Int)<(n:Int):=by omega
            have hin1:(i:Int)+1<(n:Int):=by omega
            have hi00:(0:Int)≤(i:Int):=by omega
            have hi1:(0:Int)≤(i:Int)+1:=by omega
            have hiw:(i:Int)<(wl:Int):=by omega
            have hml:i<l.length:=by have:=HWl.out;omega
            have HSo:=Lib.hid HOK.out.1
            obtain ⟨b2,off2,hA,hbw,hc⟩:=HBy.out.2.2.2 (by omega)
            have q1:=((bcell (HB.out.trans (HB4.out.mono HB.out.size))).1 b2 (off2+i) hbw).trans (hc i hml)
            have hx256:=HBy.out.2.2.1 i hml
            obtain ⟨y,hy⟩:∃y:Nat,l[i]=y:=⟨_,rfl⟩
            rw[hy] at q1 hx256
            have HX:Hid ((l[i]?).getD 0=y):=by rw[List.getElem?_eq_getElem hml,←hy];exact rfl
            obtain ⟨v,hv⟩:∃v:Bool,x.set.has y=v:=⟨_,rfl⟩
            have HVv:=Lib.hid hv
            clear hy hc hv
            subst hA
            have q5:=HD.out.cellTop hlt
            obtain ⟨d0,c1,c2,c3,c4,d5,d6,d7⟩:=Nd.cells HX4.out
            clear d0 d5 d6 d7
            have hrl:=HD.out.rlow i hlt
            have hr1:r2 i≠g2:=hrl.2
            have hr2:wo.heap.size≤r2 i:=hrl.1
            have hr3:r2 i≠wo.heap.size:=(at_types HX4.out (HD.out.row i hlt) (by decide)).symm
            have hr4:r2 i≠b2:=by have:=HB.out.size;omega
            clear hrl
            have hwi:IntKind.i64.wrap ((i:Int)+1)=(i:Int)+1:=by rw[IntKind.wrap_i64];omega
            have hti:((i:Int)+1).toNat=i+1:=by omega
            have hwx:IntKind.i64.wrap (y:Int)=(y:Int):=by rw[IntKind.wrap_i64];omega
            go_wp2_with fail
            go_region_held3 (fun w'=>w'.cell? ⟨g2,i,none⟩=some (.slice (some ⟨r2 i,0,none⟩) n n)∧w'.cell? ⟨wo.heap.size,1,none⟩=some (.int .u64 x.set.w0)∧w'.cell? ⟨wo.heap.size,2,none⟩=some (.int .u64 x.set.w1)∧w'.cell? ⟨wo.heap.size,3,none⟩=some (.int .u64 x.set.w2)∧w'.cell? ⟨wo.heap.size,4,none⟩=some (.int .u64 x.set.w3)∧w'.cell? ⟨b2,off2+i,none⟩=some (.int .u8 y))
              (first | go_keep | exact ⟨s5,s1,s2,s3,s4,sb⟩ | fail)
              ((go_at_call 25
                (with_reducible refine (refHasV x.set HSo.out y hx256 v HVv.out _).mono ?_)
                rintro e w3 ⟨rfl,hb3⟩
                have HD3:=Lib.hid (HD.out.drew.next hb3)
                have HAt3:=Lib.hid (HX4.out.drew.below hb3 (At.lt HX4.out.drew))
                have HB3:=Lib.hid (below_step HB4.out hb3 rfl rfl rfl rfl)
                have s5:=HD3.out.cellTop hlt
                obtain ⟨_,s1,s2,s3,s4,_,_,_⟩:=Nd.cells HAt3.out
                have sb:=((bcell hb3).1 b2 (off2+i) (by have:=HB.out.size;have:=HB4.out.size;simp;omega)).trans q1
                have s6:=HD3.out.cellRow hlt hlt1
                have s7:=HD3.out.freeRow hlt (i+1)
                clear hb3 q1 q5 c1 c2 c3 c4))
            go_wp2_with fail
            go_roundw
            case rel=>exact ⟨i+1,by omega,by go_num,Lib.hid ((HD3.out.put (i+1) hlt v).congr (fun i' j' _ _=>diagTo_step (fun j hj=>byte_off hj) (byte_at hml HX.out HVv.out.symm) i' j')),Lib.hid (HAt3.out.other hr3.symm _),Lib.hid (HB3.out.setCell hr2 _)⟩
            case measure=>simp[intOf];omega
          · obtain rfl:wl=i:=by omega
            have HBq:=HB4
            have HT2:Hid (TabAt wr 51 4 wo.heap.size g2 n r2 (byteF x.set l)):=Lib.hid (HD.out.congr (fun i' j' h _=>by unfold diagTo;split;rfl;exact (byte_last (by have:=HWl.out;omega)).symm))
            have HTs2:=Lib.hid (HTs.out.next HB4.out)
            obtain ⟨w5,hw5e⟩:∃w5,w5=wr:=⟨_,rfl⟩
            rw[←hw5e] at HBq HT2 HTs2 ⊢
            clear hw5e
            have HF:Hid (nodeF l bits (nodesF l bits ns j) x=byteF x.set l):=Lib.hid (by unfold nodeF;simp[HKd.out])
            have HNew:Hid (∀bb,u8.ownBlock=some bb→g2≠bb∧∀i,i<n→r2 i≠bb):=Lib.hid (fun bb hbb=>by
              have hlt2:=(World.ownsRow.lt HTs.out.own bb hbb).2
              exact ⟨by have:=HT2.out.low;omega,fun i hi=>by have:=(HT2.out.rlow i hi).1;omega⟩)
            have hw5:=HBq.out.size
            have hwr:=HB.out.size
            go_wp2_with (first
              | (at_builtin
                 refine wpList_append_lies _ rfl _ _ _ rfl w.heap.size 44 i0 _ 1 24 Tryz.underlying45 hi0 hz0 hz1 hz2 rfl (by omega) u8 _ _ rfl (HTs2.out.next ((Below.refl _ _).alloc (Nat.le_refl _) _)).own ⟨w5.heap.size,0,none⟩ 1 1 [tv n (g2,r2)] rfl rfl ?c1 ?c2 (by omega) ?c3 ?c4 ?c5 _ rfl ?_
                 case c1=>exact (cell_one_new _ _ _)
                 case c2=>simp[Value.oneCell',tv]
                 case c3=>unfold maxLen;omega
                 case c4=>omega
                 case c5=>simp;omega
                 intro g cap w6 hown6 hg6 hat6 hlt6)
              | fail)
            refine ⟨⟨j+1,ts++[(g2,r2)],by omega,by go_num,by simp[htl],Lib.hid ?_,Lib.hid ?_⟩,by simp[intOf];omega⟩
            · have hpush:=TabsAt.push (HTs2.out.next ((Below.refl _ _).alloc (Nat.le_refl _) _)) ((HT2.out.lower hwr).next ((Below.refl _ _).alloc (Nat.le_refl _) _)) hown6 hg6 hat6 (Nat.le_refl _) HNew.out
              rw[htl] at hpush
              show TabsAt _ _ _ _ _ (nodesF l bits ns j++[nodeF l bits (nodesF l bits ns j) (ndAt ns j)])
              rw[HNX.out,HF.out]
              exact hpush
            · exact below_grown' ((HB.out.trans (HBq.out.mono hwr)).alloc (by omega) _) (by simp;omega) hg6 (fun bb hbb=>by have:=(World.ownsRow.lt HTs.out.own bb hbb).1;omega)
      by_cases hk8:x.kind=8
      · have HKd:=Lib.hid hk8
        have ck:=(Nd.cells HX4.out).1
        rw[hk8] at ck
        clear hk8
        have HD:=Lib.hid (HT4.out.congr (fun i j _ _=>(diagTo_zero (bitF bits x.a.toNat x.neg) i j).symm))
        clear HTs4
        obtain ⟨wo,rfl⟩:∃wo:World,wo=wr:=⟨_,rfl⟩
        go_wp2_with fail
        go_loopw [116] (fun y wr=>∃i:Nat,i≤n∧y=.int .i64 i∧Hid (TabAt wr 51 4 wo.heap.size g2 n r2 (diagTo (bitF bits x.a.toNat x.neg) i))∧Hid (At wr wo.heap.size 61 x.cs.toArray)∧Hid (Below wo.heap.size wo wr)) (fun y _=>n-(intOf y).toNat)
        case atStart=>exact ⟨0,Nat.zero_le _,rfl,HD,HX4,HB4⟩
        case round =>
          clear HD HX4 HB4 HT4 ck
          obtain ⟨i,hi,rfl,HD,HX4,HB4⟩:=hrel
          by_cases hlt0:i<n
          · have hin:(i:Int)<(n:Int):=by omega
            have hi00:(0:Int)≤(i:Int):=by omega
            have hml:i<bits.length:=by have:=HBi.out.1;omega
            obtain ⟨b2,off2,hA,hbw,hc⟩:=HBi.out.2.2.2 (by omega)
            have q1:=((bcell (HB.out.trans (HB4.out.mono HB.out.size))).1 b2 (off2+i) hbw).trans (hc i hml)
            have hx256:=HBi.out.2.2.1 i hml
            obtain ⟨y,hy⟩:∃y:Nat,bits[i]=y:=⟨_,rfl⟩
            rw[hy] at q1 hx256
            have HX:Hid ((bits[i]?).getD 0=y):=by rw[List.getElem?_eq_getElem hml,←hy];exact rfl
            have ha4:=HOK.out.2.2.2 HKd.out
            obtain ⟨ka,hka⟩:∃q:Nat,x.a=(q:Int):=⟨x.a.toNat,by omega⟩
            have hka4:ka<4:=by omega
            have HKA:Hid (x.a.toNat=ka):=Lib.hid (by omega)
            have HXL:=Lib.hid hx256
            have HXA:=Lib.hid hka
            clear hy hc ha4
            subst hA
            have q5:=HD.out.cellTop hlt0
            have q6:=HD.out.cellRow hlt0 hlt0
            have q7:=HD.out.freeRow hlt0 i
            obtain ⟨old,hold⟩:∃v:Bool,diagTo (bitF bits x.a.toNat x.neg) i i i=v:=⟨_,rfl⟩
            rw[hold] at q6
            clear hold
            obtain ⟨d0,d1,d2,d3,d4,c5,d6,c7⟩:=Nd.cells HX4.out
            clear d0 d1 d2 d3 d4 d6
            rw[hka] at c5
            clear hka
            obtain ⟨neg,hneg⟩:∃v:Bool,x.neg=v:=⟨_,rfl⟩
            rw[hneg] at c7
            have HNeg:=Lib.hid hneg
            clear hneg
            have hr2:wo.heap.size≤r2 i:=(HD.out.rlow i hlt0).1
            have hr3:r2 i≠wo.heap.size:=(at_types HX4.out (HD.out.row i hlt0) (by decide)).symm
            go_wp2_with fail
            go_still_tail 18,(by kernel_rfl)
            change wpList _ _ _ _ _ (World.drew _)
            go_wp2_with fail
            go_roundw
            case rel=>exact ⟨i+1,by omega,by go_num,Lib.hid ((HD.out.drew.put i hlt0 _).congr (fun i' j' _ _=>diagTo_step (fun j hj=>bit_off hj) (by rw[HKA.out,HNeg.out];exact shut_map' HXL.out hka4 HX.out) i' j')),Lib.hid (HX4.out.drew.other hr3.symm _),Lib.hid ((Below.drew HB4.out).setCell hr2 _)⟩
            case measure=>simp[intOf];omega
          · obtain rfl:n=i:=by omega
            have HBq:=HB4
            have HT2:Hid (TabAt wr 51 4 wo.heap.size g2 n r2 (bitF bits x.a.toNat x.neg)):=Lib.hid (HD.out.congr (fun i' j' h _=>diagTo_end h))
            have HTs2:=Lib.hid (HTs.out.next HB4.out)
            obtain ⟨w5,hw5e⟩:∃w5,w5=wr:=⟨_,rfl⟩
            rw[←hw5e] at HBq HT2 HTs2 ⊢
            clear hw5e
            have HF:Hid (nodeF l bits (nodesF l bits ns j) x=bitF bits x.a.toNat x.neg):=Lib.hid (by unfold nodeF;simp[HKd.out])
            have HNew:Hid (∀bb,u8.ownBlock=some bb→g2≠bb∧∀i,i<n→r2 i≠bb):=Lib.hid (fun bb hbb=>by
              have hlt2:=(World.ownsRow.lt HTs.out.own bb hbb).2
              exact ⟨by have:=HT2.out.low;omega,fun i hi=>by have:=(HT2.out.rlow i hi).1;omega⟩)
            have hw5:=HBq.out.size
            have hwr:=HB.out.size
            go_wp2_with (first
              | (at_builtin
                 refine wpList_append_lies _ rfl _ _ _ rfl w.heap.size 44 i0 _ 1 24 Tryz.underlying45 hi0 hz0 hz1 hz2 rfl (by omega) u8 _ _ rfl (HTs2.out.next ((Below.refl _ _).alloc (Nat.le_refl _) _)).own ⟨w5.heap.size,0,none⟩ 1 1 [tv n (g2,r2)] rfl rfl ?c1 ?c2 (by omega) ?c3 ?c4 ?c5 _ rfl ?_
                 case c1=>exact (cell_one_new _ _ _)
                 case c2=>simp[Value.oneCell',tv]
                 case c3=>unfold maxLen;omega
                 case c4=>omega
                 case c5=>simp;omega
                 intro g cap w6 hown6 hg6 hat6 hlt6)
              | fail)
            refine ⟨⟨j+1,ts++[(g2,r2)],by omega,by go_num,by simp[htl],Lib.hid ?_,Lib.hid ?_⟩,by simp[intOf];omega⟩
            · have hpush:=TabsAt.push (HTs2.out.next ((Below.refl _ _).alloc (Nat.le_refl _) _)) ((HT2.out.lower hwr).next ((Below.refl _ _).alloc (Nat.le_refl _) _)) hown6 hg6 hat6 (Nat.le_refl _) HNew.out
              rw[htl] at hpush
              show TabsAt _ _ _ _ _ (nodesF l bits ns j++[nodeF l bits (nodesF l bits ns j) (ndAt ns j)])
              rw[HNX.out,HF.out]
              exact hpush
            · exact below_grown' ((HB.out.trans (HBq.out.mono hwr)).alloc (by omega) _) (by simp;omega) hg6 (fun bb hbb=>by have:=(World.ownsRow.lt HTs.out.own bb hbb).1;omega)
      have ck:=(Nd.cells HX4.out).1
      have hb1:=(int_ne hk1).1
      have h1:=Lib.hid hk1
      have hb2:=(int_ne hk2).1
      have h2:=Lib.hid hk2
      have hb3:=(int_ne hk3).1
      have h3:=Lib.hid hk3
      have hb4:=(int_ne hk4).1
      have h4:=Lib.hid hk4
      have hb5:=(int_ne hk5).1
      have h5:=Lib.hid hk5
      have hb6:=(int_ne hk6).1
      have h6:=Lib.hid hk6
      have hb7:=(int_ne hk7).1
      have h7:=Lib.hid hk7
      have hb8:=(int_ne hk8).1
      have h8:=Lib.hid hk8
      clear hk1 hk3 hk4 hk5 hk6 hk7 hk2 hk8
      have HBq:=HB4
      have HT2:=HT4
      have HTs2:=HTs4
      obtain ⟨w5,hw5e⟩:∃w5,w5=w4:=⟨_,rfl⟩
      rw[←hw5e] at HBq HT2 HTs2 ck ⊢
      clear hw5e
      have HF:Hid (nodeF l bits (nodesF l bits ns j) x=noF):=Lib.hid (by unfold nodeF;simp[h1.out,h2.out,h3.out,h4.out,h5.out,h6.out,h7.out,h8.out])
      have HNew:Hid (∀bb,u8.ownBlock=some bb→g2≠bb∧∀i,i<n→r2 i≠bb):=Lib.hid (fun bb hbb=>by
        have hlt2:=(World.ownsRow.lt HTs.out.own bb hbb).2
        exact ⟨by have:=HT2.out.low;omega,fun i hi=>by have:=(HT2.out.rlow i hi).1;omega⟩)
      have hw5:=HBq.out.size
      have hwr:=HB.out.size
      go_wp2_with (first
        | (at_builtin
           refine wpList_append_lies _ rfl _ _ _ rfl w.heap.size 44 i0 _ 1 24 Tryz.underlying45 hi0 hz0 hz1 hz2 rfl (by omega) u8 _ _ rfl (HTs2.out.next ((Below.refl _ _).alloc (Nat.le_refl _) _)).own ⟨w5.heap.size,0,none⟩ 1 1 [tv n (g2,r2)] rfl rfl ?c1 ?c2 (by omega) ?c3 ?c4 ?c5 _ rfl ?_
           case c1=>exact (cell_one_new _ _ _)
           case c2=>simp[Value.oneCell',tv]
           case c3=>unfold maxLen;omega
           case c4=>omega
           case c5=>simp;omega
           intro g cap w6 hown6 hg6 hat6 hlt6)
        | fail)
      refine ⟨⟨j+1,ts++[(g2,r2)],by omega,by go_num,by simp[htl],Lib.hid ?_,Lib.hid ?_⟩,by simp[intOf];omega⟩
      · have hpush:=TabsAt.push (HTs2.out.next ((Below.refl _ _).alloc (Nat.le_refl _) _)) ((HT2.out.lower hwr).next ((Below.refl _ _).alloc (Nat.le_refl _) _)) hown6 hg6 hat6 (Nat.le_refl _) HNew.out
        rw[htl] at hpush
        show TabsAt _ _ _ _ _ (nodesF l bits ns j++[nodeF l bits (nodesF l bits ns j) (ndAt ns j)])
        rw[HNX.out,HF.out]
        exact hpush
      · exact below_grown' ((HB.out.trans (HBq.out.mono hwr)).alloc (by omega) _) (by simp;omega) hg6 (fun bb hbb=>by have:=(World.ownsRow.lt HTs.out.own bb hbb).1;omega)
    · obtain rfl:j=ns.length:=by omega
      go_wp2_with fail
      go_ret
      exact ⟨_,ts,rfl,HTs.out,HB.out⟩
end Go.Proofs.YtgmpfnfomgadeaaGreat
