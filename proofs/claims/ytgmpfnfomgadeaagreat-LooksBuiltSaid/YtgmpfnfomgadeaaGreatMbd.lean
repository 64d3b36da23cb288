/- Joined: RefBits, BlNums, BlSz, Inter. -/
import Derived.Test.YtgmpfnfomgadeaaGreatBlGood
import Derived.Test.YtgmpfnfomgadeaaGreatRefSpans
import Derived.Deep.QuietTactic
import Derived.BigQuiet
import Derived.Test.YtgmpfnfomgadeaaGreatMas
import Derived.Test.YtgmpfnfomgadeaaGreatMab
import Derived.Test.YtgmpfnfomgadeaaGreatMbb
import Derived.Test.YtgmpfnfomgadeaaGreatMaa
import Derived.Test.YtgmpfnfomgadeaaGreatProg
import Derived.RegionTactic
import Derived.BigRegion
import Derived.LoopN
/- bolterref21.Bits. -/
set_option linter.unusedSimpArgs false
set_option linter.unusedVariables false
set_option maxHeartbeats 8000000
set_option maxRecDepth 100000
namespace Go.Proofs.YtgmpfnfomgadeaaGreat
open Go.RowKit
def bitAt (f:Nat→Nat→Bool):Nat→Nat→Nat
  | 0,_=>0
  | k+1,i=>bitAt f k i+(if f k i=true then 2 ^ k else 0)
theorem bitAt_lt (f:Nat→Nat→Bool):∀(k i:Nat),bitAt f k i<2 ^ k
  | 0,_=>Nat.one_pos
  | k+1,i=>by
    have:=bitAt_lt f k i
    show bitAt f k i+(if f k i=true then 2 ^ k else 0)<2 ^ (k+1)
    rw[Nat.pow_succ]
    split<;>omega
theorem bitAt_bit (f:Nat→Nat→Bool) (m i:Nat) (hm:m≤4) (k:Nat) (hk:k<m):decide (bitAt f m i >>> k % 2=1)=f k i:=by
  have hm':m=1∨m=2∨m=3∨m=4:=by omega
  cases h0:f 0 i<;>cases h1:f 1 i<;>cases h2:f 2 i<;>cases h3:f 3 i<;>rcases hm' with rfl | rfl | rfl | rfl <;>
    (have hk':k=0∨k=1∨k=2∨k=3:=by omega)<;>rcases hk' with rfl | rfl | rfl | rfl<;>first | omega | simp[bitAt,h0,h1,h2,h3]
def byteRow (f:Nat→Nat) (n:Nat):Array Value:=arr n (fun i=>.int .u8 (f i))
theorem byteRow_zero (n:Nat):byteRow (fun _=>0) n=madeCells #[.int .u8 0] n:=by
  unfold byteRow madeCells
  apply Array.ext
  · simp[arr]
  · intro i h1 h2
    simp[arr,Nat.mod_one]
theorem byteRow_set (f:Nat→Nat) (n k x:Nat):(byteRow f n).setIfInBounds k (.int .u8 x)=byteRow (fun j=>if j=k then x else f j) n:=by
  unfold byteRow
  rw[arr_set]
  refine arr_congr (fun j hj=>?_)
  by_cases h:j=k
  · rw[if_pos h];dsimp only;rw[if_pos h]
  · rw[if_neg h];dsimp only;rw[if_neg h]
theorem byteRow_congr {f g:Nat→Nat} {n:Nat} (h:∀j,j<n→f j=g j):byteRow f n=byteRow g n:=arr_congr (fun j hj=>by rw[h j hj])
theorem byteRow_bytes {w:World} {g n:Nat} {f:Nat→Nat} (h:At w g 5 (byteRow f n)) (hf:∀i,f i<256) (hn:n≤1000):IsBytes w (some ⟨g,0,none⟩) n ((List.range n).map f) :=
  ⟨by simp,by omega,fun k hk=>by simpa using hf k,fun h0=>⟨g,0,rfl,h.lt,fun k hk=>by
    have hk:k<n:=by simpa using hk
    rw[h.cell,Nat.zero_add]
    unfold byteRow
    rw[arr_get _ _ _ hk]
    simp⟩⟩
theorem info_u8b:(Tryz.prog.info? 5).map (fun i=>(i.zero,i.size,i.bytes))=some (some (.int .u8 0),1,1):=by kernel_rfl
theorem make_u8b (n:Nat) (hn:n≤900) (W:World):(Instr.makeSlice 28 (.int .i64 ((n:Int)+1)) (.int .i64 ((n:Int)+1))).run Tryz.prog W=.ok (.slice (some ⟨W.heap.size,0,none⟩) (n+1) (n+1)) (W.alloc (.cells (madeCells #[.int .u8 0] (n+1)) 5)):=by
  have h:=run_make_row' (P:=Tryz.prog) 28 5 (.int .u8 0) 1 Tryz.underlying28 info_u8b rfl .i64 .i64 (n+1) (by omega) (by omega) W
  rw[show ((n+1:Nat):Int)=(n:Int)+1 by omega] at h
  exact h
def lkF (L:List Tr) (l:List Nat) (k i:Nat):Bool:=spansS l 40 (L[k]?.getD Tr.blank) i i
theorem lkF_at {L:List Tr} {l:List Nat} {k:Nat} (h:k<L.length) (i:Nat):lkF L l k i=spansS l 40 L[k] i i:=by
  unfold lkF
  rw[List.getElem?_eq_getElem h]
  rfl
theorem bitsD_row (L:List Tr) (l:List Nat) (h4:L.length≤4):BitsD L l ((List.range (l.length+1)).map (bitAt (lkF L l) L.length)):=fun k hk i hi=>by
  unfold bitF
  rw[decide_eq_true rfl,Bool.true_and]
  have e:(((List.range (l.length+1)).map (bitAt (lkF L l) L.length))[i]?).getD 0=bitAt (lkF L l) L.length i:=by
    rw[List.getElem?_eq_getElem (by simpa using hi)]
    simp
  rw[e,bitAt_bit (lkF L l) L.length i h4 k hk,lkF_at hk]
  cases spansS l 40 L[k] i i<;>rfl
theorem bit_sum {f:Nat→Nat→Bool} {j i:Nat} (h:f j i=true):bitAt f (j+1) i=bitAt f j i+2 ^ j:=by
  show bitAt f j i+(if f j i=true then 2 ^ j else 0)=_
  rw[if_pos h]
theorem bit_same {f:Nat→Nat→Bool} {j i:Nat} (h:f j i=false):bitAt f (j+1) i=bitAt f j i:=by
  show bitAt f j i+(if f j i=true then 2 ^ j else 0)=_
  rw[if_neg (by rw[h];decide),Nat.add_zero]
def mixAt (f:Nat→Nat→Bool) (j i x:Nat):Nat:=if x<i then bitAt f (j+1) x else bitAt f j x
theorem mix_zero (f:Nat→Nat→Bool) (j x:Nat):mixAt f j 0 x=bitAt f j x:=if_neg (Nat.not_lt_zero _)
theorem mix_here (f:Nat→Nat→Bool) (j i:Nat):mixAt f j i i=bitAt f j i:=if_neg (Nat.lt_irrefl _)
theorem mix_same {f:Nat→Nat→Bool} {j i:Nat} (h:f j i=false) (x:Nat):mixAt f j i x=mixAt f j (i+1) x:=by
  unfold mixAt
  by_cases e:x=i
  · subst e
    rw[if_neg (Nat.lt_irrefl _),if_pos (by omega),bit_same h]
  · by_cases h2:x<i
    · rw[if_pos h2,if_pos (by omega)]
    · rw[if_neg h2,if_neg (by omega)]
theorem mix_end {f:Nat→Nat→Bool} {j n x:Nat} (h:x<n):mixAt f j n x=bitAt f (j+1) x:=if_pos h
theorem mix_step (f:Nat→Nat→Bool) (j i x:Nat):(if x=i then bitAt f (j+1) i else mixAt f j i x)=mixAt f j (i+1) x:=by
  unfold mixAt
  by_cases h:x=i
  · subst h
    rw[if_pos rfl,if_pos (by omega)]
  · rw[if_neg h]
    by_cases h2:x<i
    · rw[if_pos h2,if_pos (by omega)]
    · rw[if_neg h2,if_neg (by omega)]
theorem refBits (v:Value) (L:List Tr) (A:Option Addr) (c n:Nat) (l:List Nat) (w:World) (hv:LksAt w v L) (hL:L.length≤4) (hf:∀q∈L,formedS 40 q=true) (hb:IsBytes w A n l) (hn:n≤10) :
    Calls Tryz.prog 14 #[v,.slice A n c] w fun e w'=>∃g bits,e=.returned (.slice (some ⟨g,0,none⟩) (n+1) (n+1))∧IsBytes w' (some ⟨g,0,none⟩) (n+1) bits∧BitsD L l bits∧Below w.heap.size w w':=by
  have hnl:=hb.1
  have hmk:=make_u8b n (by omega) w
  have hM0:=At.new w 5 (madeCells #[.int .u8 0] (n+1))
  have hB0:Below w.heap.size w (w.alloc (.cells (madeCells #[.int .u8 0] (n+1)) 5)):=(Below.refl _ _).alloc (Nat.le_refl _) _
  rw[←byteRow_zero] at hM0 hB0 hmk
  have HM0:Hid (At (w.alloc (.cells (byteRow (bitAt (lkF L l) 0) (n+1)) 5)) w.heap.size 5 (byteRow (bitAt (lkF L l) 0) (n+1))):=Lib.hid hM0
  have HB0:=Lib.hid hB0
  have HLs:=Lib.hid hv
  have HFm:=Lib.hid hf
  have HBy:=Lib.hid hb
  have HNl:=Lib.hid hnl
  have HL4:=Lib.hid hL
  obtain ⟨A1,c1,rfl,hrow,_⟩:=id hv.1
  have HR:=Lib.hid hrow
  clear hv hf hb hrow hM0 hB0 hnl hL
  go_enter Tryz.func14,Tryz.ntmps14
  go_wp2_with fail
  clear hmk
  go_loopw [15] (fun i wr=>∃j:Nat,j≤L.length∧i=.int .i64 j∧Hid (At wr w.heap.size 5 (byteRow (bitAt (lkF L l) j) (n+1)))∧Hid (Below w.heap.size w wr)) (fun i _=>L.length-(intOf i).toNat)
  case atStart=>exact ⟨0,Nat.zero_le _,rfl,HM0,HB0⟩
  case round =>
    clear HM0 HB0
    obtain ⟨j,hj,rfl,HM,HB⟩:=hrel
    by_cases hlt:j<L.length
    · obtain ⟨b1,o1,hA1,hb1,hr1⟩:=HR.out (by omega)
      have HX:=Lib.hid (range_below (hr1 j hlt) hb1 (Nat.le_refl _) HB.out)
      obtain ⟨t,ht⟩:∃t,t=L[j]:=⟨_,rfl⟩
      have htm:t∈L:=by rw[ht];exact List.getElem_mem hlt
      have HLk:Hid (∀i,lkF L l j i=spansS l 40 t i i):=Lib.hid (fun i=>by rw[lkF_at hlt,ht])
      rw[←ht] at HX
      have hok:=HLs.out.2 t htm
      have HSp:Hid (Calls Tryz.prog 15 #[.agg t.cs.toArray,.slice A n c] wr (Tabled wr (n+1) (spansS l 40 t))):=Lib.hid (by
        obtain rfl:=HNl.out
        exact refSpans l 40 t A c wr (hok.ins.1.next HB.out) hok.slim (HFm.out t htm) (HBy.out.below HB.out) (by omega))
      have hj4:j<4:=by have:=HL4.out;omega
      have HGw:Hid (w.heap.size<wr.heap.size):=Lib.hid HM.out.lt
      clear hr1 hb1 htm ht hok
      subst hA1
      have hjz:(0:Int)≤(j:Int):=by omega
      have hjn:(j:Int)<(L.length:Int):=by omega
      go_wp2_with (first
        | (with_reducible show wpList _ _ _ (⟨some 21,.load _ _,_,_,_,_⟩::_) _ _
           refine wpList_load_mid rfl 27 _ rfl b1 (o1+j*9) rfl t.cs _ HX.out Tryz.underlying27 rfl (by rw[Tr.cs_length];kernel_rfl) ?_)
        | fail)
      refine HSp.out.mono ?_
      rintro e w3 ⟨gs,rs,rfl,hts,hb3⟩
      have HT3:=Lib.hid hts
      have HM3:Hid (At w3 w.heap.size 5 (byteRow (mixAt (lkF L l) j 0) (n+1))):=Lib.hid (by
        have:=At.below HM.out hb3 HM.out.lt
        rwa [byteRow_congr (g:=mixAt (lkF L l) j 0) (fun x _=>(mix_zero _ _ _).symm)] at this)
      have HB3:=Lib.hid (HB.out.trans (hb3.mono HB.out.size))
      clear hts hb3
      obtain ⟨wo,hwo⟩:∃wo,wo=wr:=⟨_,rfl⟩
      rw[←hwo] at HT3 HGw
      clear HSp HM HB hwo
      go_wp2_with fail
      go_loopw [26] (fun x wr=>∃i:Nat,i≤n+1∧x=.int .i64 i∧Hid (At wr w.heap.size 5 (byteRow (mixAt (lkF L l) j i) (n+1)))∧Hid (TabAt wr 51 4 wo.heap.size gs (n+1) rs (spansS l 40 t))∧Hid (Below w.heap.size w wr)) (fun x _=>n+1-(intOf x).toNat)
      case atStart=>exact ⟨0,Nat.zero_le _,rfl,HM3,HT3,HB3⟩
      case round =>
        clear HM3 HT3 HB3
        obtain ⟨i,hi,rfl,HM,HT,HB⟩:=hrel
        by_cases hin:i<n+1
        · have hi0:(0:Int)≤(i:Int):=by omega
          have hi1:(i:Int)<(n:Int)+1:=by omega
          have t0:=HT.out.cellTop hin
          have t1:=HT.out.cellRow hin hin
          have q0:wr.cell? ⟨w.heap.size,i,none⟩=some (.int .u8 (mixAt (lkF L l) j i i)):=(HM.out.cell i).trans (arr_get _ _ i hin)
          rw[mix_here] at q0
          have f0:=HM.out.free i
          cases hs:spansS l 40 t i i
          · rw[hs] at t1
            have HS:=Lib.hid hs
            clear hs
            go_wp2_with fail
            exact ⟨⟨i+1,by omega,by go_num,Lib.hid (by
              have:=HM.out
              rwa [byteRow_congr (g:=mixAt (lkF L l) j (i+1)) (fun x _=>mix_same (by rw[HLk.out];exact HS.out) x)] at this),HT,HB⟩,by simp[intOf];omega⟩
          · rw[hs] at t1
            have HS:=Lib.hid hs
            clear hs
            obtain ⟨x,hx⟩:∃x,x=bitAt (lkF L l) j i:=⟨_,rfl⟩
            rw[←hx] at q0
            have hx16:x<2 ^ j:=by rw[hx];exact bitAt_lt _ _ _
            have HXx:=Lib.hid hx
            clear hx
            go_wp2_with fail
            have HV:Hid (((x:Int)+2 ^ j) % 256=((bitAt (lkF L l) (j+1) i:Nat):Int)):=Lib.hid (by
              rw[bit_sum (by rw[HLk.out];exact HS.out),←HXx.out]
              have h1:(2:Nat) ^ j≤2 ^ 3:=Nat.pow_le_pow_right (by decide) (by omega)
              have h2:((2:Int) ^ j)=((2 ^ j:Nat):Int):=by rw[Int.natCast_pow];rfl
              rw[h2]
              obtain ⟨y,hy⟩:∃y,y=2 ^ j:=⟨_,rfl⟩
              rw[←hy] at h1 hx16 ⊢
              omega)
            rw[HV.out]
            exact ⟨⟨i+1,by omega,by go_num,Lib.hid (by
              have h1:=HM.out.set i (.int .u8 (bitAt (lkF L l) (j+1) i:Nat))
              rw[byteRow_set] at h1
              rwa [byteRow_congr (fun x _=>mix_step (lkF L l) j i x)] at h1),Lib.hid (HT.out.far HGw.out _),Lib.hid (HB.out.setCell (Nat.le_refl _) _)⟩,by simp[intOf];omega⟩
        · obtain rfl:i=n+1:=by omega
          go_wp2_with fail
          exact ⟨⟨j+1,by omega,by go_num,Lib.hid (by
            have:=HM.out
            rwa [byteRow_congr (g:=bitAt (lkF L l) (j+1)) (fun x hx=>mix_end hx)] at this),HB⟩,by simp[intOf];omega⟩
    · obtain rfl:j=L.length:=by omega
      go_wp2_with fail
      go_ret
      obtain rfl:=HNl.out
      have h16:∀i,bitAt (lkF L l) L.length i<256:=fun i=>Nat.lt_of_lt_of_le (bitAt_lt _ _ _) (Nat.le_trans (Nat.pow_le_pow_right (by decide) HL4.out) (by decide))
      exact ⟨_,_,rfl,byteRow_bytes HM.out h16 (by omega),bitsD_row L l HL4.out,HB.out⟩
end Go.Proofs.YtgmpfnfomgadeaaGreat

/- norm.numbersOfLooks, where the looks are a plan's: whole. -/
set_option linter.unusedSimpArgs false
set_option linter.unusedVariables false
set_option maxHeartbeats 8000000
set_option maxRecDepth 100000
namespace Go.Proofs.YtgmpfnfomgadeaaGreat
open Go.RowKit Go.Shelf
theorem numsStep (v:Value) (L:List Tr) (hl:L.length≤1000000) (k:Nat) (hk40:k+1≤40) (ih:NumsIs v L k):NumsIs v L (k+1):=by
    intro t w0 w v0 l h hf ho hL hb0 hr hll
    have hlen:t.parts.length≤9223372036854775807:=by have:=h.1.2.1;omega
    have hn:=h.1.2.1.1
    have HIH:=Lib.hid ih
    clear ih
    have hfo:ownF t=true∧t.parts.all (formedS k)=true:=by
      have:(ownF t&&t.parts.all (formedS k))=true:=hf
      rw[Bool.and_eq_true] at this
      exact this
    have hkd:0≤t.kind∧t.kind≤11:=by
      have:=hfo.1
      unfold ownF at this
      exact (of_decide_eq_true this).1
    by_cases hk:8≤t.kind
    · have e:=nums_look (L:=L) (k:=k) hk
      rw[e] at hll ⊢
      exact numsLook v L hl k hk40 t w0 w v0 l hk h hkd.2 (numOk_look hk ho) hL hb0 hr (by simpa using hll)
    · have HN:=Lib.hid hn
      have HFp:Hid (∀p∈t.parts,formedS k p=true):=Lib.hid (fun p hp=>List.all_eq_true.1 hfo.2 p hp)
      have HOp:Hid (∀p∈t.parts,numOk L k p):=Lib.hid (numOk_part hk ho)
      have hE:=nums_parts (L:=L) (k:=k) hk
      have HE:=Lib.hid hE
      rw[hE] at hll
      have HLL:=Lib.hid hll
      have HL:=Lib.hid hL
      have HH:=Lib.hid h
      have hB1:Below w.heap.size w (w.alloc (Obj.cells t.cs.toArray 27)):=(Below.refl _ _).alloc (Nat.le_refl _) _
      have hA:At (w.alloc (Obj.cells t.cs.toArray 27)) w.heap.size 27 t.cs.toArray:=At.new _ _ _
      have HB1:=Lib.hid (hb0.trans (hB1.mono hb0.size))
      have HR1:=Lib.hid (hr.next hB1)
      obtain ⟨c0,c5,c6,c7,c8⟩:=At.tr_cell hA
      rw[hn] at c5
      have d8:=(int_ne (show ¬t.kind=8 by omega)).1
      have d9:=(int_ne (show ¬t.kind=9 by omega)).1
      have d10:=(int_ne (show ¬t.kind=10 by omega)).1
      have d11:=(int_ne (show ¬t.kind=11 by omega)).1
      obtain ⟨Q,hQ⟩:∃Q,Q=idxF v:=⟨_,rfl⟩
      have HQ:=Lib.hid hQ
      rw[←hQ]
      clear h hf hfo hn c6 c7 hk hkd hE hll hL hr hb0 hB1 ho hQ
      go_enter Tryz.func41,Tryz.ntmps41
      go_wp2_with fail
      go_loopw [0,9,36] (fun u o i wr=>∃(j:Nat) (y:Value),j≤t.parts.length∧i=.int .i64 j∧u=y∧o=.bool true∧Hid (IdRow wr w0.heap.size u (l++(t.parts.take j).flatMap (numsS L k)))∧Hid (Below w0.heap.size w0 wr)) (fun _ _ i _=>t.parts.length-(intOf i).toNat)
      case atStart=>exact ⟨0,_,Nat.zero_le _,rfl,rfl,rfl,Lib.hid (by rw[List.take_zero,List.flatMap_nil,List.append_nil];exact HR1.out),HB1⟩
      case round =>
        clear c5 c0 c8 hA
        obtain ⟨j,y,hj,rfl,hu,rfl,HR,HB⟩:=hrel
        replace hu:=hu.symm
        subst hu
        by_cases hlt:j<t.parts.length
        · obtain ⟨b,off,ha,hb,hra⟩:=HH.out.1.2.2.1 (by rw[HN.out];omega)
          have HX:=Lib.hid (range_below (hra j hlt) hb (Nat.le_refl _) HB.out)
          have HP:Hid (Tr.Ins w0 k t.parts[j]):=Lib.hid ⟨HH.out.1.2.2.2 j hlt,HH.out.2.2 _ (List.getElem_mem hlt)⟩
          have hA2:=boxW_at wr t.parts[j]
          have HBx:=Lib.hid (boxW_below HB.out t.parts[j])
          have HRx:=Lib.hid (HR.out.next (boxW_next wr t.parts[j]))
          have HTs:Hid ((t.parts.take (j+1)).flatMap (numsS L k)=(t.parts.take j).flatMap (numsS L k)++numsS L k t.parts[j]):=Lib.hid (by
            rw[List.take_succ_eq_append_getElem hlt,List.flatMap_append];simp)
          have hsz:(l++(t.parts.take j).flatMap (numsS L k)).length+(numsS L k t.parts[j]).length≤1000000:=by
            have h1:=HLL.out
            have h2:((t.parts.take (j+1)).flatMap (numsS L k)).length≤(t.parts.flatMap (numsS L k)).length:=by
              have h3:t.parts.flatMap (numsS L k)=(t.parts.take (j+1)).flatMap (numsS L k)++(t.parts.drop (j+1)).flatMap (numsS L k):=by
                rw[←List.flatMap_append,List.take_append_drop]
              rw[h3,List.length_append]
              omega
            rw[HTs.out,List.length_append] at h2
            rw[List.length_append]
            omega
          have HC:=Lib.hid (HIH.out t.parts[j] w0 (boxW wr t.parts[j]) y _ HP.out (HFp.out _ (List.getElem_mem hlt)) (HOp.out _ (List.getElem_mem hlt)) HL.out HBx.out HRx.out hsz)
          rw[←HQ.out] at HC
          clear hra hb hsz
          rw[ha]
          clear ha
          have hjz:(0:Int)≤(j:Int):=by omega
          have hjn:(j:Int)<(t.parts.length:Int):=by omega
          go_wp2_with (first
            | (with_reducible show wpList _ _ _ (⟨some 39,.load _ _,_,_,_,_⟩::_) _ _
               refine wpList_load_mid rfl 27 _ rfl b (off+j*9) rfl t.parts[j].cs _ HX.out Tryz.underlying27 rfl (by rw[Tr.cs_length];kernel_rfl) ?_)
            | (with_reducible show wpList _ _ _ (⟨none,.store _ _ _,_,_,_,_⟩::_) _ _
               refine wpList_store_row rfl 27 _ _ rfl wr.heap.size t.parts[j].cs.toArray rfl rfl 27 Tr.blank.cs.toArray (At.new _ _ _) (by kernel_rfl) rfl (Tr.one _) ?_
               change Exit.then _ _ _ _ (boxW wr t.parts[j]))
            | (with_reducible show wpList _ _ _ (⟨some 42,.load _ _,_,_,_,_⟩::_) _ _
               refine wpList_load_row rfl 27 _ rfl wr.heap.size rfl 27 t.parts[j].cs.toArray (0,0) _ hA2 Tryz.underlying27 rfl (by kernel_rfl) ?_) | fail)
          refine HC.out.mono ?_
          rintro e w3 ⟨u',rfl,hr3,hb3⟩
          have HR3:=Lib.hid hr3
          have HB3:=Lib.hid hb3
          rw[List.append_assoc,←HTs.out] at HR3
          clear hr3 hb3 hA2
          go_wp2_with fail
          exact ⟨⟨j+1,_,by omega,by go_num,rfl,rfl,HR3,HB3⟩,by simp[intOf];omega⟩
        · obtain rfl:j=t.parts.length:=by omega
          have HR2:=HR
          rw[List.take_length,←HE.out] at HR2
          go_wp2_with fail
          go_ret2
          exact ⟨_,rfl,HR2.out,HB.out⟩
theorem nums (v:Value) (L:List Tr) (hl:L.length≤1000000):∀k,k≤40→NumsIs v L k
  | 0,_=>fun _ _ _ _ _ h=>h.1.elim
  | k+1,hk=>numsStep v L hl k hk (nums v L hl k (by omega))
end Go.Proofs.YtgmpfnfomgadeaaGreat

/- Build: how great the parts are. Mathematics; no program is named. -/
set_option linter.unusedSimpArgs false
set_option linter.unusedVariables false
namespace Go.Proofs.YtgmpfnfomgadeaaGreat
open Go.RowKit
theorem sz_int (k:Nat) (t:Tr):(sz k t:Int)=sizeS k t:=Int.toNat_of_nonneg (sizeS_ge k t)
theorem sumS_exact (k:Nat) (l:List Tr) (h:sumS (l.map (sizeS k))≤1000):((l.map (sz k)).sum:Int)=sumS (l.map (sizeS k)):=by
  have key:∀r:List Tr,sumS (r.map (sizeS k)).reverse≤1000→((r.map (sz k)).sum:Int)=sumS (r.map (sizeS k)).reverse:=fun r=>by
    induction r with
    | nil=>exact fun _=>rfl
    | cons a r ih =>
      intro h2
      have em:((a::r).map (sizeS k)).reverse=(r.map (sizeS k)).reverse++[sizeS k a]:=by rw[List.map_cons,List.reverse_cons]
      rw[em,sumS_snoc] at h2 ⊢
      have hge:0≤sumS (r.map (sizeS k)).reverse:=sumS_ge _ (fun x hx=>by
        rw[List.mem_reverse,List.mem_map] at hx
        obtain ⟨p,_,rfl⟩:=hx
        exact sizeS_ge k p)
      have ha:=sizeS_ge k a
      have hc:¬1001<sumS (r.map (sizeS k)).reverse+sizeS k a:=fun q=>by rw[cut1001_yes q] at h2;omega
      rw[cut1001_no hc] at h2 ⊢
      have h3:=ih (by omega)
      have h4:=sz_int k a
      rw[List.map_cons,List.sum_cons]
      omega
  have h5:(l.reverse.map (sizeS k)).reverse=l.map (sizeS k):=by rw[List.map_reverse,List.reverse_reverse]
  have h6:(l.reverse.map (sz k)).sum=(l.map (sz k)).sum:=by rw[List.map_reverse,List.sum_reverse]
  have:=key l.reverse (by rw[h5];exact h)
  rw[h5,h6] at this
  exact this
theorem sumS_nonneg (k:Nat) (l:List Tr):0≤sumS (l.map (sizeS k)):=sumS_ge _ (fun x hx=>by
  rw[List.mem_map] at hx
  obtain ⟨p,_,rfl⟩:=hx
  exact sizeS_ge k p)
theorem sz_plain {k:Nat} {t:Tr} (h:sizeS (k+1) t≤150) (h7:¬t.kind=7):sz (k+1) t=(t.parts.map (sz k)).sum+1:=by
  have e:sizeS (k+1) t=cut1001 (sumS (t.parts.map (sizeS k))+1):=by show cut1001 (_+1)=_;rw[if_neg h7]
  have hc:¬1001<sumS (t.parts.map (sizeS k))+1:=fun q=>by rw[e,cut1001_yes q] at h;omega
  rw[cut1001_no hc] at e
  have h1:=sumS_exact k t.parts (by omega)
  have h2:=sz_int (k+1) t
  omega
theorem sz_times {k:Nat} {t:Tr} (h:sizeS (k+1) t≤150) (h7:t.kind=7):sz (k+1) t=(t.parts.map (sz k)).sum*(timesS t.lo t.hi).toNat+1:=by
  have e:sizeS (k+1) t=cut1001 (sumS (t.parts.map (sizeS k))*timesS t.lo t.hi+1):=by show cut1001 (_+1)=_;rw[if_pos h7]
  have hT:=timesS_ge t.lo t.hi
  have hs0:=sumS_nonneg k t.parts
  have hc:¬1001<sumS (t.parts.map (sizeS k))*timesS t.lo t.hi+1:=fun q=>by rw[e,cut1001_yes q] at h;omega
  rw[cut1001_no hc] at e
  have hm:sumS (t.parts.map (sizeS k))*1≤sumS (t.parts.map (sizeS k))*timesS t.lo t.hi:=Int.mul_le_mul_of_nonneg_left hT hs0
  rw[Int.mul_one] at hm
  have h1:=sumS_exact k t.parts (by omega)
  have h2:=sz_int (k+1) t
  have h3:((timesS t.lo t.hi).toNat:Int)=timesS t.lo t.hi:=Int.toNat_of_nonneg (by omega)
  apply Int.ofNat_inj.1
  rw[Int.natCast_add,Int.natCast_mul,h3,h1,h2,e]
  rfl
theorem sz_sum {k:Nat} {t:Tr} (h:sizeS (k+1) t≤150):(t.parts.map (sz k)).sum+1≤sz (k+1) t∧sz (k+1) t≤150:=by
  have h2:=sz_int (k+1) t
  refine ⟨?_,by omega⟩
  by_cases h7:t.kind=7
  · rw[sz_times h h7]
    have hT:=timesS_ge t.lo t.hi
    have:(t.parts.map (sz k)).sum*1≤(t.parts.map (sz k)).sum*(timesS t.lo t.hi).toNat:=Nat.mul_le_mul_left _ (by omega)
    omega
  · rw[sz_plain h h7];exact Nat.le_refl _
theorem sz_mem {k:Nat}:∀{l:List Tr} {p:Tr},p∈l→sz k p≤(l.map (sz k)).sum
  | [],_,h=>by cases h
  | a::l,p,h=>by
    rw[List.map_cons,List.sum_cons]
    rcases List.mem_cons.1 h with rfl | h
    · omega
    · have:=sz_mem (k:=k) h;omega
theorem sz_pos {k:Nat} {t:Tr} (h:formedS k t=true):1≤sz k t:=by
  cases k with
  | zero=>cases h
  | succ k =>
    have h2:=sz_int (k+1) t
    have e:sizeS (k+1) t=cut1001 ((if t.kind=7 then sumS (t.parts.map (sizeS k))*timesS t.lo t.hi else sumS (t.parts.map (sizeS k)))+1):=rfl
    have hs0:=sumS_nonneg k t.parts
    have hx:0≤(if t.kind=7 then sumS (t.parts.map (sizeS k))*timesS t.lo t.hi else sumS (t.parts.map (sizeS k))):=by
      split
      · exact Int.mul_nonneg hs0 (by have:=timesS_ge t.lo t.hi;omega)
      · exact hs0
    have:1≤sizeS (k+1) t:=by
      rw[e]
      unfold cut1001
      split<;>omega
    omega
theorem sz_others {k:Nat}:∀{l:List Tr} (i:Nat) (h:i<l.length),(∀p∈l,1≤sz k p)→sz k l[i]+(l.length-1)≤(l.map (sz k)).sum
  | [],i,h,_=>absurd h (Nat.not_lt_zero _)
  | a::l,0,_,hp=>by
    have hl:∀m:List Tr,(∀p∈m,1≤sz k p)→m.length≤(m.map (sz k)).sum:=fun m=>by
      induction m with
      | nil=>exact fun _=>Nat.le_refl _
      | cons b m ih =>
        intro h
        have h1:=ih (fun p q=>h p (List.mem_cons_of_mem _ q))
        have h2:=h b (by simp)
        rw[List.map_cons,List.sum_cons,List.length_cons]
        omega
    have:=hl l (fun p q=>hp p (List.mem_cons_of_mem _ q))
    rw[List.map_cons,List.sum_cons,List.length_cons]
    simp
    omega
  | a::l,i+1,h,hp=>by
    have h0:i<l.length:=by simpa using h
    have h1:=sz_others i h0 (fun p q=>hp p (List.mem_cons_of_mem _ q))
    have h2:=hp a (by simp)
    rw[List.map_cons,List.sum_cons,List.length_cons]
    simp
    omega
theorem sum_pair {f:Int→Nat} {g:Tr→Nat}:∀{xs:List Int} {ps:List Tr},xs.length=ps.length→(∀i (h1:i<xs.length) (h2:i<ps.length),f xs[i]≤g ps[i])→(xs.map f).sum≤(ps.map g).sum
  | [],[],_,_=>Nat.le_refl _
  | [],_::_,h,_=>by cases h
  | _::_,[],h,_=>by cases h
  | x::xs,p::ps,h,hi=>by
    have h1:=sum_pair (f:=f) (g:=g) (xs:=xs) (ps:=ps) (by simpa using h) (fun i h1 h2=>hi (i+1) (by simpa using h1) (by simpa using h2))
    have h2:=hi 0 (by simp) (by simp)
    rw[List.map_cons,List.map_cons,List.sum_cons,List.sum_cons]
    simp at h2
    omega
theorem fifth:∀n,n<151→n*(150-n)≤5700:=by decide
end Go.Proofs.YtgmpfnfomgadeaaGreat

/- What set.Inter answers, of any sets. -/
set_option maxHeartbeats 1000000
namespace Go.Proofs.YtgmpfnfomgadeaaGreat
open Go.RowKit
theorem setInter (s t:St) (hs:s.Ok) (ht:t.Ok) (w:World) :
    Calls Tryz.prog 78 #[.agg #[.int .u64 s.w0,.int .u64 s.w1,.int .u64 s.w2,.int .u64 s.w3],.agg #[.int .u64 t.w0,.int .u64 t.w1,.int .u64 t.w2,.int .u64 t.w3]] w fun e w' =>
      e=.returned (.agg #[.int .u64 (s.and t).w0,.int .u64 (s.and t).w1,.int .u64 (s.and t).w2,.int .u64 (s.and t).w3])∧Below w.heap.size w w':=by
  have b0:=bits_and s.w0 t.w0 hs.o0 ht.o0
  have b1:=bits_and s.w1 t.w1 hs.o1 ht.o1
  have b2:=bits_and s.w2 t.w2 hs.o2 ht.o2
  have b3:=bits_and s.w3 t.w3 hs.o3 ht.o3
  go_enter Tryz.func78,Tryz.ntmps78
  go_wp2
  refine wp_loop_rounds 5 ?_
  iterate 4
    rw[rounds_succ]
    go_wp2
    go_region
    go_wp2
  rw[rounds_succ]
  go_wp2
  refine bodyPost_ret (v:=.agg #[.int .u64 (s.and t).w0,.int .u64 (s.and t).w1,.int .u64 (s.and t).w2,.int .u64 (s.and t).w3]) (by simp[results,Tryz.results78,go_sem,St.and]) rfl ⟨rfl,?_⟩
  repeat (first | exact Below.refl _ _ | refine Below.drew ?_ | refine Below.alloc ?_ (by simp;try omega) _)
end Go.Proofs.YtgmpfnfomgadeaaGreat
