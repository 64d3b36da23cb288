/- Joined: NormAnd, BlNodeA, BlCat0. -/
import Derived.Test.YtgmpfnfomgadeaaGreatNormOr
import Derived.Test.YtgmpfnfomgadeaaGreatMbd
import Derived.Deep.QuietTactic
import Derived.Deep.RegionHeld3
import Derived.Test.YtgmpfnfomgadeaaGreatMaz
/- norm.And: what all of the nodes match. -/
set_option linter.unusedSimpArgs false
set_option linter.unusedVariables false
set_option maxHeartbeats 16000000
set_option maxRecDepth 100000
namespace Go.Proofs.YtgmpfnfomgadeaaGreat
open Go.RowKit
theorem noSt_has (b:Nat):noSt.has b=false:=by
  unfold noSt St.has St.word
  split
  · simp
  · split
    · simp
    · split<;>simp
theorem BytesOf.nil5 {ns:List Nd}:BytesOf ns 5 [] noSt.not:=by
  refine ⟨St.not_ok,fun b hb=>?_⟩
  rw[has_not noSt noSt_ok,noSt_has]
  constructor
  · intro q;cases q
  · rintro ⟨y,hy,_⟩;cases hy
theorem BytesOf.and {ns:List Nd} {y:Int} {ms:List Int} {U:St} (h:BytesOf ns 5 ms U) (hy:kd ns y=2) (ho:(ndAt ns y.toNat).set.Ok):BytesOf ns 5 (ms++[y]) (U.and (ndAt ns y.toNat).set):=by
  refine ⟨St.and_ok (t:=(ndAt ns y.toNat).set) h.1,fun b hb=>?_⟩
  have e:(decide ((5:Int)=5))=true:=rfl
  have:=h.2 b hb
  rw[e,Bool.bne_true,Bool.not_eq_true'] at this
  rw[e,Bool.bne_true,Bool.not_eq_true',has_and,Bool.and_eq_false_iff,this]
  constructor
  · rintro (⟨z,hz,q1,q2⟩ | q)
    · exact ⟨z,List.mem_append_left _ hz,q1,q2⟩
    · exact ⟨y,List.mem_append_right _ (by simp),hy,by rw[Bool.bne_true,q];rfl⟩
  · rintro ⟨z,hz,q1,q2⟩
    rcases List.mem_append.1 hz with hz | hz
    · exact Or.inl ⟨z,hz,q1,q2⟩
    · rw[List.mem_singleton.1 hz,Bool.bne_true,Bool.not_eq_true'] at q2;exact Or.inr q2
section
variable {AA:World→Value→List Nd→(Nat→Prop)→Prop}
theorem nAnd (S:ArenaMap AA) {w:World} {a v:Value} {ns:List Nd} {F:Nat→Prop} (l:List Int) (h:AA w a ns F) (hc:Canon ns) (hv:ListAt w v l) (hI:∀x∈l,isIn ns x) (hroom:ns.length+memN ns 5 l+4≤20000) :
    Calls Tryz.prog 58 #[a,v] w (Grows AA w a ns F (JoinG ns 5 l)):=by
  have hmx:=S.max h
  have hll:l.length≤20000:=by
    have:l.length≤memN ns 5 l:=by
      unfold memN
      have:∀m:List Int,(∀x∈m,isIn ns x)→m.length≤(m.map (fun x=>(mem ns 5 x).length)).sum:=by
        intro m
        induction m with
        | nil=>intro _;exact Nat.zero_le _
        | cons x m ih =>
          intro hm
          obtain ⟨y,hy⟩:=mem_ne hc.fine (Or.inr rfl) (hm x (by simp)) (k:=5)
          have:=List.length_pos_of_mem hy
          have:=ih (fun z hz=>hm z (List.mem_cons_of_mem _ hz))
          simp
          omega
      exact this l hI
    omega
  have HTh:=Lib.hid (nThere S.toArenaMid l h hv hll hI)
  have HA:=Lib.hid h
  have HC:=Lib.hid hc
  have HI:=Lib.hid hI
  have HRoom:=Lib.hid hroom
  have HV:=Lib.hid hv
  have HNot:Hid (Calls Tryz.prog 77 #[.agg #[.int .u64 0,.int .u64 0,.int .u64 0,.int .u64 0]] w fun e w'=>e=.returned (.agg #[.int .u64 noSt.not.w0,.int .u64 noSt.not.w1,.int .u64 noSt.not.w2,.int .u64 noSt.not.w3])∧Below w.heap.size w w'):=Lib.hid (setNot noSt noSt_ok w)
  obtain ⟨gp,rfl⟩:=S.ptr h
  obtain ⟨i0,hi0,hi1,hi2,hi3⟩:=info_parts info_intR
  clear h hc hv hI hroom
  go_enter Tryz.func58,Tryz.ntmps58
  go_wp2_with fail
  refine HTh.out.mono ?_
  rintro e w1 ⟨rfl,hw1⟩
  obtain rfl:w=w1:=hw1.symm
  have HW0:Hid (Below w.heap.size w w):=Lib.hid (Below.refl _ _)
  go_wp2_with fail
  refine HNot.out.mono ?_
  rintro e wn ⟨rfl,hbn⟩
  have HBn:=Lib.hid hbn
  have HAn:=Lib.hid (S.next HA.out hbn)
  have HGn:Hid (∀{e:Ending} {w':World},Grows AA wn (.pointer (some ⟨gp,0,none⟩)) ns F (JoinG ns 5 l) e w'→Grows AA w (.pointer (some ⟨gp,0,none⟩)) ns F (JoinG ns 5 l) e w'):=Lib.hid (fun g=>g.from HBn.out)
  have hvn:=HV.out.next hbn
  clear HA HNot HTh hbn
  have hone:=setC_one noSt.not
  obtain ⟨wm,hwm⟩:∃wm,wm=(wn.alloc (.cells #[.int .u64 0,.int .u64 0,.int .u64 0,.int .u64 0] 24)).setRow wn.heap.size (setC noSt.not):=⟨_,rfl⟩
  have hAt:At wm wn.heap.size 24 (setC noSt.not):=by rw[hwm];exact At.row (At.new wn 24 (setC noSt)) _
  have hBm:Below wn.heap.size wn wm:=by rw[hwm];exact below_row ((Below.refl _ _).alloc (Nat.le_refl _) _) (Nat.le_refl _) _
  have hsm:wm.heap.size=wn.heap.size+1:=by rw[hwm,setRow_size,World.size_alloc]
  have HMe:Hid (Calls Tryz.prog 73 #[.pointer (some ⟨gp,0,none⟩),.int .i64 5,v] wm fun e w'=>∃v' ms,e=.returned v'∧IdRow w' (wn.heap.size+1) v' ms∧ms.Nodup∧(∀y,y∈ms↔∃x∈l,y∈mem ns 5 x)∧Below (wn.heap.size+1) wm w'):=Lib.hid (by
    have:=nMembers S.toArenaMid 5 (Or.inr rfl) l (S.next HAn.out hBm) (hvn.next hBm) hll HI.out
    rw[hsm] at this
    exact this)
  have HWm:=Lib.hid hwm
  have HBm:=Lib.hid hBm
  have HAtm:=Lib.hid hAt
  have HSm:=Lib.hid hsm
  clear hvn hwm hBm hAt hsm HV HW0
  go_wp2_with (first
    | (with_reducible show wpList _ _ _ (⟨none,.store 24 _ _,_,_,_,_⟩::_) _ _
       refine wpList_store_row rfl 24 _ _ rfl wn.heap.size (setC noSt.not) rfl rfl 24 (setC noSt) (At.new _ _ _) (by kernel_rfl) rfl hone ?_
       first | (change wpList _ _ _ _ _ ((wn.alloc (.cells #[.int .u64 0,.int .u64 0,.int .u64 0,.int .u64 0] 24)).setRow wn.heap.size (setC noSt.not));rw[←HWm.out]) | (change Exit.then _ _ _ _ ((wn.alloc (.cells #[.int .u64 0,.int .u64 0,.int .u64 0,.int .u64 0] 24)).setRow wn.heap.size (setC noSt.not));rw[←HWm.out]))
    | fail)
  refine HMe.out.mono ?_
  rintro e w2 ⟨v2,ms,rfl,hr2,hnd,hiff,hb2⟩
  have HCol:Hid (Coll ns 5 l ms):=Lib.hid ⟨HI.out,hnd,hiff⟩
  have hB2:Below wn.heap.size wn w2:=HBm.out.trans (hb2.mono (Nat.le_succ _))
  have hS2:wn.heap.size+1≤w2.heap.size:=by have:=hb2.size;have:=HSm.out;omega
  have HO2:Hid (OrI wn ns 5 ms wn.heap.size 0 (.slice none 0 0) v2 noSt.not w2):=Lib.hid ⟨IdRow.nil _ _,hr2,Or.inl rfl,(hb2.block _ (Nat.lt_succ_self _)).trans HAtm.out,BytesOf.nil5,(by intro y hy;cases hy),hB2,hS2⟩
  have HA:=HAn
  obtain ⟨A2,c2,rfl⟩:=hr2.len
  have HFew:Hid (ms.length≤memN ns 5 l):=Lib.hid (HCol.out.few HC.out (Or.inr rfl))
  have hmsb:ms.length≤20000:=by have:=HFew.out;have:=HRoom.out;omega
  clear hr2 hnd hiff hb2 hB2 hS2 HMe hone
  go_wp2_with fail
  go_loopw [5,7,22] (fun v5 v6 x wr=>∃(j:Nat) (U:St) (hb:Bool),j≤ms.length∧x=.int .i64 j∧v5=.bool hb∧Hid (hb=true↔∃y∈ms.take j,kd ns y=2)∧Hid (OrI wn ns 5 ms wn.heap.size j v6 (.slice A2 ms.length c2) U wr)) (fun _ _ x _=>ms.length-(intOf x).toNat)
  case atStart=>exact ⟨0,noSt.not,false,Nat.zero_le _,rfl,rfl,Lib.hid (Iff.intro (fun q=>by cases q) (fun ⟨y,hy,_⟩=>by cases hy)),HO2⟩
  case round =>
    clear HO2
    obtain ⟨j,U,hb,hj,rfl,rfl,HHb,HO⟩:=hrel
    by_cases hjl:j<ms.length
    · have hjz:(0:Int)≤(j:Int):=by omega
      have hjn:(j:Int)<(ms.length:Int):=by omega
      obtain ⟨g2,cap2,e2,hcs⟩:=HO.out.src.form (by omega)
      injection e2 with e2 e4 e3
      clear e4
      subst e2 e3
      have cy:=hcs j hjl
      obtain ⟨y,hy⟩:∃y,y=ms[j]:=⟨_,rfl⟩
      rw[←hy] at cy
      have HYe:=Lib.hid hy
      have hym:y∈ms:=by rw[hy];exact List.getElem_mem _
      have HYm:=Lib.hid hym
      have hyi:=(HCol.out.inn HC.out (Or.inr rfl) hym).1
      have HYi:=Lib.hid hyi
      have hyI:I64 y:=by unfold isIn at hyi;unfold I64;omega
      have HN:=Lib.hid (S.nodeIn y (S.next HA.out HO.out.below) hyI)
      have hdx:decide (0≤y∧y<(ns.length:Int))=true:=decide_eq_true hyi
      clear hcs hy hym hyi
      go_wp2_with fail
      refine HN.out.mono ?_
      rintro e w4 ⟨u,rfl,hu,hb4⟩
      have hu:=hu HYi.out
      rw[hdx]
      have HU:=Lib.hid hu
      have HKx:Hid (kd ns y=u.kind):=Lib.hid (by unfold kd;rw[←hu])
      have HXb:=Lib.hid (boxN_at w4 u)
      have hb5:=hb4.trans ((boxN_next w4 u).mono hb4.size)
      have HO5:=Lib.hid (HO.out.next hb5)
      have hcl:u.cs.length=8:=rfl
      clear hu hb4 hb5 hdx cy
      obtain ⟨c0,c1,c2,c3,c4,c5,c6,c7⟩:=Nd.cells HXb.out
      by_cases hk0:u.kind=0
      · have HAl:Hid (topB ns 5 y=true):=Lib.hid (by show isNo ns y=true;exact decide_eq_true (HKx.out.trans hk0))
        rw[hk0] at c0
        clear hk0
        go_wp2_with (first
          | (with_reducible show wpList _ _ _ (⟨none,.store 61 _ _,_,_,_,_⟩::_) _ _
             refine wpList_store_row rfl 61 _ _ rfl w4.heap.size u.cs.toArray rfl rfl 61 Nd.zero.cs.toArray (At.new _ _ _) (by kernel_rfl) rfl (Nd.one u) ?_
             first | change wpList _ _ _ _ _ (boxN w4 u) | change Exit.then _ _ _ _ (boxN w4 u))
          | fail)
        go_ret
        have hj0:=HCol.out.top HC.out (Or.inr rfl) HYm.out HAl.out
        exact HGn.out ⟨y,[],F,rfl,by rw[List.append_nil];exact S.next HA.out HO5.out.below,fun b q=>Or.inl q,OffF.of HO5.out.below,by rw[List.append_nil];exact HC.out,by rw[List.append_nil];exact HYi.out,by rw[List.append_nil];exact hj0,Nat.zero_le _,fun _=>Nat.zero_le _⟩
      · have HAl:Hid (topB ns 5 y=false):=Lib.hid (by show isNo ns y=false;exact decide_eq_false (fun q=>hk0 (HKx.out.symm.trans q)))
        have hk0b:=(int_ne hk0).1
        clear hk0
        by_cases hk2:u.kind=2
        · have HK2:Hid (kd ns y=2):=Lib.hid (HKx.out.trans hk2)
          rw[hk2] at c0 hk0b
          have hset:=HO5.out.set
          have s0:(boxN w4 u).cell? ⟨wn.heap.size,0,none⟩=some (.int .u64 U.w0):=hset.cell 0
          have s1:(boxN w4 u).cell? ⟨wn.heap.size,1,none⟩=some (.int .u64 U.w1):=hset.cell 1
          have s2:(boxN w4 u).cell? ⟨wn.heap.size,2,none⟩=some (.int .u64 U.w2):=hset.cell 2
          have s3:(boxN w4 u).cell? ⟨wn.heap.size,3,none⟩=some (.int .u64 U.w3):=hset.cell 3
          have hsok:u.set.Ok:=by have:=(fine_nd HC.out.fine HYi.out).2;rw[←HU.out] at this;exact this.2.1
          have HUn:=Lib.hid (setInter U u.set HO5.out.bytes.1 hsok (boxN w4 u))
          have HBy:Hid (BytesOf ns 5 (ms.take j++[y]) (U.and u.set)):=Lib.hid (by
            have:=HO5.out.bytes.and HK2.out (by rw[←HU.out];exact hsok)
            rw[←HU.out] at this;exact this)
          clear hk2 hk0b hset hsok
          go_wp2_with (first
            | (with_reducible show wpList _ _ _ (⟨none,.store 61 _ _,_,_,_,_⟩::_) _ _
               refine wpList_store_row rfl 61 _ _ rfl w4.heap.size u.cs.toArray rfl rfl 61 Nd.zero.cs.toArray (At.new _ _ _) (by kernel_rfl) rfl (Nd.one u) ?_
               first | change wpList _ _ _ _ _ (boxN w4 u) | change Exit.then _ _ _ _ (boxN w4 u))
            | fail)
          refine HUn.out.mono ?_
          rintro e w6 ⟨rfl,hb6⟩
          have HO7:=Lib.hid (HO5.out.next hb6)
          have hset:=HO7.out.set
          clear hb6 s0 s1 s2 s3
          go_wp2_with (first
            | (with_reducible show wpList _ _ _ (⟨none,.store 24 _ _,_,_,_,_⟩::_) _ _
               refine wpList_store_row rfl 24 _ _ rfl wn.heap.size (setC (U.and u.set)) rfl rfl 24 (setC U) hset (by kernel_rfl) rfl (setC_one _) ?_
               obtain ⟨w7,hw7⟩:∃w7,w7=w6.setRow wn.heap.size (setC (U.and u.set)):=⟨_,rfl⟩
               rw[←hw7])
            | fail)
          go_roundw
          case rel=>exact ⟨j+1,U.and u.set,true,by omega,by go_num,rfl,Lib.hid (by rw[take_snoc hjl,←HYe.out];exact ⟨fun _=>⟨y,List.mem_append_right _ (by simp),HK2.out⟩,fun _=>rfl⟩),Lib.hid (by exact HO7.out.bytesStep hjl (Or.inr rfl) (by rw[←HYe.out];exact HK2.out) (by rw[←HYe.out];exact HBy.out))⟩
          case measure=>simp[intOf];omega
        · have HK2:Hid (kd ns y≠2):=Lib.hid (fun q=>hk2 (HKx.out.symm.trans q))
          have hk2b:=(int_ne hk2).1
          clear hk2
          have HIA:=Lib.hid (nIsAll S.toArenaMid y u (S.next HA.out HO5.out.below) HYi.out HU.out)
          go_wp2_with (first
            | (with_reducible show wpList _ _ _ (⟨none,.store 61 _ _,_,_,_,_⟩::_) _ _
               refine wpList_store_row rfl 61 _ _ rfl w4.heap.size u.cs.toArray rfl rfl 61 Nd.zero.cs.toArray (At.new _ _ _) (by kernel_rfl) rfl (Nd.one u) ?_
               first | change wpList _ _ _ _ _ (boxN w4 u) | change Exit.then _ _ _ _ (boxN w4 u))
            | (with_reducible show wpList _ _ _ (⟨_,.load 61 (.tmp 10),_,_,_,_⟩::_) _ _
               refine wpList_load_row_want (by rfl) 61 _ rfl w4.heap.size rfl 61 u.cs.toArray (0,0) _ HXb.out Tryz.underlying61 rfl (by rw[List.size_toArray,Nd.cs_length];kernel_rfl) ?_)
            | fail)
          refine HIA.out.mono ?_
          rintro e w5 ⟨rfl,hb5⟩
          have HO6:=Lib.hid (HO5.out.next hb5)
          clear hb5
          by_cases hal:isAl ns y=true
          · have HUy:Hid (unitB ns 5 y=true):=Lib.hid hal
            rw[hal]
            clear hal
            go_wp2_with fail
            go_roundw
            case rel=>exact ⟨j+1,U,hb,by omega,by go_num,rfl,Lib.hid (by rw[take_snoc hjl,←HYe.out];exact ⟨fun q=>by obtain ⟨z,hz,q2⟩:=HHb.out.1 q;exact ⟨z,List.mem_append_left _ hz,q2⟩,fun ⟨z,hz,q2⟩=>by rcases List.mem_append.1 hz with hz | hz;exact HHb.out.2 ⟨z,hz,q2⟩;(rw[List.mem_singleton.1 hz] at q2;exact absurd q2 HK2.out)⟩),Lib.hid (by exact HO6.out.skipStep hjl (by rw[←HYe.out];exact HK2.out) (by rw[←HYe.out];exact HUy.out) (by rw[←HYe.out];exact HAl.out))⟩
            case measure=>simp[intOf];omega
          · have hal':isAl ns y=false:=by cases q:isAl ns y with | false=>rfl | true=>exact absurd q hal
            have HUy:Hid (unitB ns 5 y=false):=Lib.hid hal'
            rw[hal']
            clear hal hal'
            have hal2:Below w5.heap.size w5 (w5.alloc (.cells #[.int .i64 y] 3)):=(Below.refl _ _).alloc (Nat.le_refl _) _
            have HO7:=Lib.hid (HO6.out.next hal2)
            have HRw:=Lib.hid HO7.out.row
            have hZ7:=HO7.out.size
            have hfl:((ms.take j).filter (otherB ns 5)).length≤20000:=by
              have:=List.length_filter_le (otherB ns 5) (ms.take j)
              rw[List.length_take] at this
              omega
            clear hal2
            go_wp2_with (first
              | (at_builtin
                 refine wpList_append_own_at _ rfl _ _ _ rfl (wn.heap.size+1) 3 i0 _ 1 8 Tryz.underlying73 hi0 hi1 hi2 hi3 rfl (by omega) u7 _ _ rfl HRw.out ⟨_,0,none⟩ 1 1 [.int .i64 y] rfl rfl (cell_one_new _ _ _) ?c2 ?c3 ?c4 ?c5 ?_
                 case c2=>simp[Value.oneCell']
                 case c3=>unfold maxLen;omega
                 case c4=>omega
                 case c5=>exact hZ7
                 intro v' w8 hown8 hg8 _ hat8)
              | fail)
            go_roundw
            case rel=>exact ⟨j+1,U,hb,by omega,by go_num,rfl,Lib.hid (by rw[take_snoc hjl,←HYe.out];exact ⟨fun q=>by obtain ⟨z,hz,q2⟩:=HHb.out.1 q;exact ⟨z,List.mem_append_left _ hz,q2⟩,fun ⟨z,hz,q2⟩=>by rcases List.mem_append.1 hz with hz | hz;exact HHb.out.2 ⟨z,hz,q2⟩;(rw[List.mem_singleton.1 hz] at q2;exact absurd q2 HK2.out)⟩),Lib.hid (by exact HO7.out.otherStep hjl (by rw[←HYe.out];exact HK2.out) (by rw[←HYe.out];exact HUy.out) (by rw[←HYe.out];exact HAl.out) (by rw[←HYe.out];exact hown8) hg8 hat8)⟩
            case measure=>simp[intOf];omega
    · obtain rfl:j=ms.length:=by omega
      obtain ⟨hrow,hsrc,hap,hset,hby,htop,hbel,hsz⟩:=HO.out
      rw[List.take_length] at hrow hby htop
      obtain ⟨ot,hot⟩:∃ot,ot=ms.filter (otherB ns 5):=⟨_,rfl⟩
      rw[←hot] at hrow
      have HOt:=Lib.hid hot
      have HRow:=Lib.hid hrow
      have HBy:=Lib.hid hby
      have HTop:=Lib.hid htop
      have HBel:=Lib.hid hbel
      have HSz:=Lib.hid hsz
      have HHb2:Hid (hb=true↔∃y∈ms,kd ns y=2):=Lib.hid (by have:=HHb.out;rw[List.take_length] at this;exact this)
      have hotl:ot.length≤20000:=by
        have:=List.length_filter_le (otherB ns 5) ms
        rw[←hot] at this
        omega
      have s0:wr.cell? ⟨wn.heap.size,0,none⟩=some (.int .u64 U.w0):=hset.cell 0
      have s1:wr.cell? ⟨wn.heap.size,1,none⟩=some (.int .u64 U.w1):=hset.cell 1
      have s2:wr.cell? ⟨wn.heap.size,2,none⟩=some (.int .u64 U.w2):=hset.cell 2
      have s3:wr.cell? ⟨wn.heap.size,3,none⟩=some (.int .u64 U.w3):=hset.cell 3
      have HSet:=Lib.hid hset
      have HCt:=Lib.hid (setCount U hby.1 wr)
      obtain ⟨A6,c6,e6⟩:=hrow.len
      subst e6
      clear hrow hsrc hap hset hby htop hbel hsz hot HO
      go_wp2_with fail
      refine HCt.out.mono ?_
      rintro e w5 ⟨rfl,hb5⟩
      have HB5:=Lib.hid (HBel.out.trans (hb5.mono HBel.out.size))
      have HRow5:=Lib.hid (HRow.out.next hb5)
      have HSz5:Hid (wn.heap.size+1≤w5.heap.size):=Lib.hid (Nat.le_trans HSz.out hb5.size)
      have hset5:At w5 wn.heap.size 24 (setC U):=(hb5.block _ HSet.out.lt).trans HSet.out
      have HA5:=Lib.hid (S.next HA.out HB5.out)
      obtain ⟨n,hn⟩:∃n,n=U.list.length:=⟨_,rfl⟩
      rw[←hn]
      have HNn:=Lib.hid hn
      clear s0 s1 s2 s3 hb5 hn
      by_cases hn0:n=0
      · have HEm:Hid (∀b,b<256→U.has b=false):=Lib.hid (list_none.1 (by rw[←HNn.out];exact hn0))
        have HP:=Lib.hid (nNone S.toArenaMid HA5.out HC.out (by have:=HRoom.out;omega))
        subst hn0
        go_wp2_with fail
        refine HP.out.mono ?_
        rintro e w6 gr
        obtain ⟨r,_,_,rfl,_⟩:=id gr
        have HG:Hid (Grows AA wn (.pointer (some ⟨gp,0,none⟩)) ns F (JoinG ns 5 l) (.returned (.int .i64 r)) w6):=Lib.hid (by
          obtain ⟨r',more,F',g0,g1,g2,g3,g4,g5,g6⟩:=gr.from HB5.out
          have hc2:=HCol.out.up HC.out (Or.inr rfl) more
          exact ⟨r',more,F',g0,g1,g2,g3,g4,g5,hc2.shut g4 (Or.inr rfl) (HBy.out.up HC.out (Or.inr rfl) (fun y hy=>(HCol.out.inn HC.out (Or.inr rfl) hy).1) more) HEm.out g5 (show isNo (ns++more) r'=true from decide_eq_true g6.1),by have:=g6.2.1;omega,fun _=>by have:=g6.2.1;omega⟩)
        clear gr
        go_wp2_with fail
        go_ret
        exact HGn.out HG.out
      have hn0b:=(int_ne (show ¬((n:Int)=0) by omega)).1
      cases hb
      · have HNo:Hid (∀y∈ms,kd ns y≠2):=Lib.hid (fun y hy q=>by have:=HHb2.out.2 ⟨y,hy,q⟩;cases this)
        by_cases ho0:ot.length=0
        · have HUn:Hid (∀y∈ms,unitB ns 5 y=true):=Lib.hid (fun y hy=>by
            cases q:unitB ns 5 y with
            | true=>rfl
            | false =>
              have:y∈ot:=by rw[HOt.out];exact List.mem_filter.2 ⟨hy,by unfold otherB;rw[decide_eq_false (HNo.out y hy),q];rfl⟩
              rw[List.length_eq_zero_iff] at ho0
              rw[ho0] at this;cases this)
          have HP:=Lib.hid (nAll S.toArenaMid HA5.out HC.out (by have:=HRoom.out;omega))
          have ho0':((ot.length:Int)==0)=true:=by rw[ho0];rfl
          rw[ho0]
          clear ho0 ho0'
          go_wp2_with fail
          refine HP.out.mono ?_
          rintro e w6 gr
          obtain ⟨r,_,_,rfl,_⟩:=id gr
          have HG:Hid (Grows AA wn (.pointer (some ⟨gp,0,none⟩)) ns F (JoinG ns 5 l) (.returned (.int .i64 r)) w6):=Lib.hid (by
            obtain ⟨r',more,F',g0,g1,g2,g3,g4,g5,g6⟩:=gr.from HB5.out
            have hc2:=HCol.out.up HC.out (Or.inr rfl) more
            refine ⟨r',more,F',g0,g1,g2,g3,g4,g5,hc2.units g4 (Or.inr rfl) (fun y hy=>?_) g5 (show isAl (ns++more) r'=true from g6.1),by have:=g6.2;omega,fun _=>by have:=g6.2;omega⟩
            rw[unitB_up HC.out.fine more (HCol.out.inn HC.out (Or.inr rfl) hy).1]
            exact HUn.out y hy)
          clear gr
          go_wp2_with fail
          go_ret
          exact HGn.out HG.out
        · have HLO:Hid (ListOf ns [] 5 ms ot):=Lib.hid (Or.inl ⟨rfl,HOt.out,HNo.out⟩)
          have hob:((ot.length:Int)==0)=false:=(int_ne (by omega)).1
          have HJ:=Lib.hid (nJoined S 5 (Or.inr rfl) ot HA5.out HC.out HRow5.out (by omega) (fun b e q=>by have:=(HRow5.out.lt e).1;have:=S.low HA.out b q;omega) (by have:=HLO.out.good HC.out (Or.inr rfl) HCol.out HTop.out;rw[List.append_nil] at this;exact this) (by have:=HLO.out.few HC.out (Or.inr rfl) HCol.out;have:=HFew.out;have:=HRoom.out;omega))
          clear ho0
          go_wp2_with fail
          refine HJ.out.mono ?_
          rintro e w6 jp
          obtain ⟨r,_,_,rfl,_⟩:=id jp
          have HG:Hid (Grows AA wn (.pointer (some ⟨gp,0,none⟩)) ns F (JoinG ns 5 l) (.returned (.int .i64 r)) w6):=Lib.hid (joined_fin HC.out (Or.inr rfl) (m1:=[]) HCol.out HTop.out HLO.out (by simp) (fun b q=>Or.inl q) (OffF.of HB5.out) (by rw[List.append_nil];exact HC.out) (fun b e=>by have:=(HRow5.out.lt e).1;omega) HB5.out.size (by rw[List.append_nil];exact jp))
          clear jp
          go_wp2_with fail
          go_ret
          exact HGn.out HG.out
      · have HNe:Hid (U.list.length≠0):=Lib.hid (by rw[←HNn.out];exact hn0)
        have s0:w5.cell? ⟨wn.heap.size,0,none⟩=some (.int .u64 U.w0):=hset5.cell 0
        have s1:w5.cell? ⟨wn.heap.size,1,none⟩=some (.int .u64 U.w1):=hset5.cell 1
        have s2:w5.cell? ⟨wn.heap.size,2,none⟩=some (.int .u64 U.w2):=hset5.cell 2
        have s3:w5.cell? ⟨wn.heap.size,3,none⟩=some (.int .u64 U.w3):=hset5.cell 3
        have HP:=Lib.hid (nBytes S.toArenaMid U HA5.out HC.out HBy.out.1 (by have:=HRoom.out;omega))
        clear hn0 hset5
        go_wp2_with fail
        refine HP.out.mono ?_
        rintro e w6 ⟨b,m1,F1,rfl,g1,g2,g3,g4,g5,g6⟩
        have hnb:ndAt (ns++m1) b.toNat=⟨2,U,0,0,false⟩:=by
          rcases g6.1 with ⟨q,_⟩ | ⟨_,q⟩
          · exact absurd q HNe.out
          · exact q
        have hot6:∀c,F c→(Value.slice A6 ot.length c6).ownBlock≠some c:=fun c q e=>by have:=(HRow5.out.lt e).1;have:=S.low HA.out c q;omega
        have hr6:=HRow5.out.off g3 hot6
        have hal:Below w6.heap.size w6 (w6.alloc (.cells #[.int .i64 b] 3)):=(Below.refl _ _).alloc (Nat.le_refl _) _
        have HRw:=Lib.hid (hr6.next hal)
        have HAl:=Lib.hid hal
        have HG1:=Lib.hid g1
        have HG2:=Lib.hid g2
        have HO6:Hid (OffF F wn w6):=Lib.hid ((OffF.of HB5.out).off g3 (fun b q=>Or.inl q))
        have HG4:=Lib.hid g4
        have HLO:Hid (ListOf ns m1 5 ms (ot++[b])):=Lib.hid (Or.inr ⟨b,U,by rw[HOt.out],g5,hnb,HBy.out,HHb2.out.1 (by simp)⟩)
        have HM1:Hid (m1.length≤1):=Lib.hid g6.2.1
        have HS6:Hid (w5.heap.size≤w6.heap.size):=Lib.hid g3.size
        have hz7:wn.heap.size+1≤(w6.alloc (.cells #[.int .i64 b] 3)).heap.size:=by rw[World.size_alloc];have:=HSz5.out;have:=HS6.out;omega
        clear g1 g2 g3 g4 g5 g6 hnb hot6 hr6 hal s0 s1 s2 s3
        go_wp2_with (first
          | (at_builtin
             refine wpList_append_own_at _ rfl _ _ _ rfl (wn.heap.size+1) 3 i0 _ 1 8 Tryz.underlying73 hi0 hi1 hi2 hi3 rfl (by omega) (.slice A6 ot.length c6) _ _ rfl HRw.out ⟨_,0,none⟩ 1 1 [.int .i64 b] rfl rfl (cell_one_new _ _ _) ?c2 ?c3 ?c4 ?c5 ?_
             case c2=>simp[Value.oneCell']
             case c3=>unfold maxLen;omega
             case c4=>omega
             case c5=>exact hz7
             intro v8 w8 hown8 hg8 _ hat8
             have hr8:IdRow w8 (wn.heap.size+1) v8 (ot++[b]):=by
               unfold IdRow
               rw[List.length_append]
               unfold idL
               rw[List.map_append]
               exact hown8
             obtain ⟨A8,c8,e8⟩:=hr8.len
             rw[List.length_append,List.length_singleton] at e8
             have HR8:=Lib.hid hr8
             have HG8:=Lib.hid hg8
             have HAt8:=Lib.hid hat8
             clear hown8 hg8 hat8 hr8
             subst e8)
          | fail)
        have hfl:∀c,F1 c→(Value.slice A6 ot.length c6).ownBlock≠some c:=fun c q e=>by
          rcases HG2.out c q with z | z
          · have:=(HRow5.out.lt e).1;have:=S.low HA.out c z;omega
          · have:=(HRow5.out.lt e).2;omega
        have hA8:AA w8 (.pointer (some ⟨gp,0,none⟩)) (ns++m1) F1:=S.keep (S.next HG1.out HAl.out) (fun c q=>HG8.out.block c (by have:=S.low HG1.out c q;have:=HAl.out.size;omega) (fun e=>hfl c q e.symm))
        have hO8:OffF F wn w8:=(HO6.out.then HAl.out).grown HG8.out (fun c e=>Or.inr (by have:=(HRow5.out.lt e).1;omega))
        have hnF:∀c,(Value.slice A8 (ot.length+1) c8).ownBlock=some c→¬F1 c:=fun c e q=>by
          rcases HAt8.out with z | z
          · exact hfl c q (z.symm.trans e)
          · rw[e] at z
            injection z with z
            have:=S.low HG1.out c q
            rw[z,World.size_alloc] at this
            omega
        have HJ:=Lib.hid (nJoined S 5 (Or.inr rfl) (ot++[b]) hA8 HG4.out HR8.out (by simp) hnF (HLO.out.good HC.out (Or.inr rfl) HCol.out HTop.out) (by have:=HLO.out.few HC.out (Or.inr rfl) HCol.out;have:=HFew.out;have:=HRoom.out;have:=HM1.out;rw[List.length_append];omega))
        have HO8:=Lib.hid hO8
        clear hfl hA8 hO8 hnF
        have hol:(((ot.length:Int)+1)==0)=false:=(int_ne (by omega)).1
        go_wp2_with fail
        refine HJ.out.mono ?_
        rintro e w9 jp
        obtain ⟨r,_,_,rfl,_⟩:=id jp
        have HG:Hid (Grows AA wn (.pointer (some ⟨gp,0,none⟩)) ns F (JoinG ns 5 l) (.returned (.int .i64 r)) w9):=Lib.hid (joined_fin HC.out (Or.inr rfl) HCol.out HTop.out HLO.out HM1.out (fun c q=>by
            rcases HG2.out c q with z | z
            · exact Or.inl z
            · exact Or.inr (Nat.le_trans HB5.out.size z)) HO8.out HG4.out (fun c e=>by have:=(HR8.out.lt e).1;omega) HO8.out.size jp)
        clear jp
        go_wp2_with fail
        go_ret
        exact HGn.out HG.out
end
end Go.Proofs.YtgmpfnfomgadeaaGreat

/- norm's builder: node, by kinds. -/
set_option linter.unusedSectionVars false
set_option linter.unusedSimpArgs false
set_option linter.unusedVariables false
set_option maxHeartbeats 16000000
set_option maxRecDepth 100000
namespace Go.Proofs.YtgmpfnfomgadeaaGreat
open Go.RowKit Go.Shelf
variable {D:List Nat→List Nat→Prop} {u:Value}
section
variable {AA:World→Value→List Nd→(Nat→Prop)→Prop}
def NodeK (D:List Nat→List Nat→Prop) (AA:World→Value→List Nd→(Nat→Prop)→Prop) (k:Nat) (K:Int):Prop:=∀(t:Tr) {w:World} {a:Value} {ns:List Nd} {F:Nat→Prop} (g kb:Nat) (ks rest:List Int),t.kind=K→AA w a ns F→Canon ns→BKs w g a F kb (ks++rest)→¬F g→Safe (wg F g) w (k+1) t→formedS (k+1) t=true→GoodK D (k+1) t ks→sizeS (k+1) t≤150→ns.length+cst (sz (k+1) t) (k+1)≤14000 →
  Calls Tryz.prog 42 #[.pointer (some ⟨g,0,none⟩),.agg t.cs.toArray] w (GrowsB AA w a ns F g kb rest (NodeR D ns (k+1) t))
theorem bNode0 (S:ArenaMap AA) (k:Nat):NodeK D AA k 0:=by
  intro t w a ns F g kb ks rest hk h hc hb hgF hs hf hl hz hroom
  have hA:At (w.alloc (Obj.cells t.cs.toArray 27)) w.heap.size 27 t.cs.toArray:=At.new _ _ _
  have hB:Below w.heap.size w (w.alloc (Obj.cells t.cs.toArray 27)):=(Below.refl _ _).alloc (Nat.le_refl _) _
  have hS1:1≤sz (k+1) t:=sz_pos hf
  have hcs:12*sz (k+1) t≤cst (sz (k+1) t) (k+1):=by unfold cst;omega
  have hbW:BKs (w.alloc (Obj.cells t.cs.toArray 27)) g a F kb (ks++rest):=hb.next hB
  have cb:(w.alloc (Obj.cells t.cs.toArray 27)).cell? ⟨g,0,none⟩=some a:=hbW.cell
  have HI:=Lib.hid (hs w (OffF.refl _ w))
  have hgp:GoodP (fun p x=>GoodK D k p x) t.parts ks:=by unfold GoodK at hl;rwa [if_neg (by rw[hk];decide)] at hl
  obtain ⟨c0,c5,c6,c7,c8⟩:=At.tr_cell hA
  obtain ⟨s1,s2,s3,s4⟩:=At.tr_set hA
  rw[hk] at c0
  rw[HI.out.2.1.1] at c5
  obtain ⟨gp,rfl⟩:=S.ptr h
  have HA:=Lib.hid h
  have HC:=Lib.hid hc
  have HgF:=Lib.hid hgF
  have HS:=Lib.hid hs
  have HK:=Lib.hid hk
  have HZ:=Lib.hid hz
  have HFo:=Lib.hid hf
  have HLo:=Lib.hid hgp
  have HRoom:=Lib.hid hroom
  have HS1:=Lib.hid hS1
  have HCs:=Lib.hid hcs
  have HB:=Lib.hid hB
  have HBW:=Lib.hid hbW
  have HAt:=Lib.hid hA
  have hpl0:t.parts.length=0:=by
    have:=formed_own hf
    unfold ownF cntF at this
    have:=(of_decide_eq_true this).2.1
    rw[hk] at this
    simp at this
    first | omega | (rw[this];rfl) | simp[this]
  have hks:ks=[]:=by rw[List.eq_nil_of_length_eq_zero hpl0] at hgp;exact hgp
  subst hks
  rw[List.nil_append] at hb
  have HBr:=Lib.hid hb
  have HN:=Lib.hid ((nNone S.toArenaMid (S.next h hB) hc (by omega)).mono (fun _ _ g=>g.from hB))
  (try clear hpl0);clear h hc hb hgF hs hf hgp hl hz hroom hS1 hcs hk hB hbW hA
  clear c5 c6 c7 c8 s1 s2 s3 s4
  go_enter Tryz.func42,Tryz.ntmps42
  go_wp2_with fail
  refine HN.out.mono ?_
  rintro e w2 ⟨r,more,F',rfl,g1,g2,g3,g4,g5,g6⟩
  have HR:Hid (NodeR D ns (k+1) t more r):=Lib.hid (by
    have e:(fun l=>spansS l (k+1) t)=fun _=>noF:=by funext l;show (if _ then _ else _)=_;simp[HK.out]
    unfold NodeR
    rw[e]
    exact ⟨wide_small (by omega) (by omega) (by omega) (by omega) HS1.out,tab_none g4 g5 g6.1,by have:=g6.2.1;have:=HCs.out;have:=HS1.out;omega⟩)
  have HG:=Lib.hid (GrowsB.of (show Grows AA w (.pointer (some ⟨gp,0,none⟩)) ns F (NodeR D ns (k+1) t) (.returned (.int .i64 r)) w2 from ⟨r,more,F',rfl,g1,g2,g3,g4,g5,HR.out⟩) (Below.refl _ _) HBr.out HgF.out)
  clear g1 g2 g3 g4 g5 g6
  go_wp2_with fail
  go_ret
  exact HG.out
theorem bNode1 (S:ArenaMap AA) (k:Nat):NodeK D AA k 1:=by
  intro t w a ns F g kb ks rest hk h hc hb hgF hs hf hl hz hroom
  have hA:At (w.alloc (Obj.cells t.cs.toArray 27)) w.heap.size 27 t.cs.toArray:=At.new _ _ _
  have hB:Below w.heap.size w (w.alloc (Obj.cells t.cs.toArray 27)):=(Below.refl _ _).alloc (Nat.le_refl _) _
  have hS1:1≤sz (k+1) t:=sz_pos hf
  have hcs:12*sz (k+1) t≤cst (sz (k+1) t) (k+1):=by unfold cst;omega
  have hbW:BKs (w.alloc (Obj.cells t.cs.toArray 27)) g a F kb (ks++rest):=hb.next hB
  have cb:(w.alloc (Obj.cells t.cs.toArray 27)).cell? ⟨g,0,none⟩=some a:=hbW.cell
  have HI:=Lib.hid (hs w (OffF.refl _ w))
  have hgp:GoodP (fun p x=>GoodK D k p x) t.parts ks:=by unfold GoodK at hl;rwa [if_neg (by rw[hk];decide)] at hl
  obtain ⟨c0,c5,c6,c7,c8⟩:=At.tr_cell hA
  obtain ⟨s1,s2,s3,s4⟩:=At.tr_set hA
  rw[hk] at c0
  rw[HI.out.2.1.1] at c5
  obtain ⟨gp,rfl⟩:=S.ptr h
  have HA:=Lib.hid h
  have HC:=Lib.hid hc
  have HgF:=Lib.hid hgF
  have HS:=Lib.hid hs
  have HK:=Lib.hid hk
  have HZ:=Lib.hid hz
  have HFo:=Lib.hid hf
  have HLo:=Lib.hid hgp
  have HRoom:=Lib.hid hroom
  have HS1:=Lib.hid hS1
  have HCs:=Lib.hid hcs
  have HB:=Lib.hid hB
  have HBW:=Lib.hid hbW
  have HAt:=Lib.hid hA
  have hpl0:t.parts.length=0:=by
    have:=formed_own hf
    unfold ownF cntF at this
    have:=(of_decide_eq_true this).2.1
    rw[hk] at this
    simp at this
    first | omega | (rw[this];rfl) | simp[this]
  have hks:ks=[]:=by rw[List.eq_nil_of_length_eq_zero hpl0] at hgp;exact hgp
  subst hks
  rw[List.nil_append] at hb
  have HBr:=Lib.hid hb
  have HN:=Lib.hid ((nEmpty S.toArenaMid (S.next h hB) hc (by omega)).mono (fun _ _ g=>g.from hB))
  (try clear hpl0);clear h hc hb hgF hs hf hgp hl hz hroom hS1 hcs hk hB hbW hA
  clear c5 c6 c7 c8 s1 s2 s3 s4
  go_enter Tryz.func42,Tryz.ntmps42
  go_wp2_with fail
  refine HN.out.mono ?_
  rintro e w2 ⟨r,more,F',rfl,g1,g2,g3,g4,g5,g6⟩
  have HR:Hid (NodeR D ns (k+1) t more r):=Lib.hid (by
    have e:(fun l=>spansS l (k+1) t)=fun _=>eqF:=by funext l;show (if _ then _ else _)=_;simp[HK.out]
    unfold NodeR
    rw[e]
    exact ⟨wide_small (by omega) (by omega) (by omega) (by omega) HS1.out,tab_empty g4 g5 g6.1,by have:=g6.2.1;have:=HCs.out;have:=HS1.out;omega⟩)
  have HG:=Lib.hid (GrowsB.of (show Grows AA w (.pointer (some ⟨gp,0,none⟩)) ns F (NodeR D ns (k+1) t) (.returned (.int .i64 r)) w2 from ⟨r,more,F',rfl,g1,g2,g3,g4,g5,HR.out⟩) (Below.refl _ _) HBr.out HgF.out)
  clear g1 g2 g3 g4 g5 g6
  go_wp2_with fail
  go_ret
  exact HG.out
end
end Go.Proofs.YtgmpfnfomgadeaaGreat

/- norm's builder: cat of nothing. -/
set_option linter.unusedSectionVars false
set_option linter.unusedSimpArgs false
set_option linter.unusedVariables false
set_option maxHeartbeats 4000000
set_option maxRecDepth 100000
namespace Go.Proofs.YtgmpfnfomgadeaaGreat
open Go.RowKit Go.Shelf
variable {D:List Nat→List Nat→Prop} {u:Value}
section
variable {AA:World→Value→List Nd→(Nat→Prop)→Prop}
theorem bCat0 (S:ArenaMap AA) {w:World} {a:Value} {ns:List Nd} {F:Nat→Prop} (g:Nat) (A:Option Addr) (c:Nat) (h:AA w a ns F) (hc:Canon ns) (hb:BAt w g a u) (hroom:ns.length+4≤20000) :
    Calls Tryz.prog 55 #[.pointer (some ⟨g,0,none⟩),.slice A 0 c] w (Grows AA w a ns F fun more r=>CatW (ns++more) [] r∧more.length≤0+1):=by
  have hB:Below w.heap.size w (w.alloc (.cells #[.pointer (some ⟨g,0,none⟩)] 85)):=(Below.refl _ _).alloc (Nat.le_refl _) _
  have HN:=Lib.hid ((nEmpty S.toArenaMid (S.next h hB) hc hroom).mono (fun _ _ g=>g.from hB))
  have cb:(w.alloc (.cells #[.pointer (some ⟨g,0,none⟩)] 85)).cell? ⟨g,0,none⟩=some a:=(At.alloc hb _).cell 0
  obtain ⟨gp,rfl⟩:=S.ptr h
  clear h hc hb
  go_enter Tryz.func55,Tryz.ntmps55
  go_wp2_with fail
  refine HN.out.mono ?_
  rintro e w2 ⟨r,more,F',rfl,g1,g2,g3,g4,g5,g6⟩
  go_wp2_with fail
  go_ret
  exact ⟨r,more,F',rfl,g1,g2,g3,g4,g5,CatW.empty g5 g6.1,by have:=g6.2.1;omega⟩
end
end Go.Proofs.YtgmpfnfomgadeaaGreat
