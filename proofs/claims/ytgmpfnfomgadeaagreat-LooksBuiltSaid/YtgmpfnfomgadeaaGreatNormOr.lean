/- norm.Or: what one of the nodes matches. -/
import Derived.Test.YtgmpfnfomgadeaaGreatMaz
import Derived.Test.YtgmpfnfomgadeaaGreatMba
set_option linter.unusedSimpArgs false
set_option linter.unusedVariables false
set_option maxHeartbeats 16000000
set_option maxRecDepth 100000
namespace Go.Proofs.YtgmpfnfomgadeaaGreat
open Go.RowKit
def setC (s:St):Array Value:=#[.int .u64 s.w0,.int .u64 s.w1,.int .u64 s.w2,.int .u64 s.w3]
theorem setC_one (s:St):(setC s).all (fun x=>x.oneCell')=true:=by simp[setC,Value.oneCell']
theorem BytesOf.nil {ns:List Nd}:BytesOf ns 4 [] noSt:=by
  refine ⟨⟨by unfold U64;exact Nat.zero_lt_succ _,by unfold U64;exact Nat.zero_lt_succ _,by unfold U64;exact Nat.zero_lt_succ _,by unfold U64;exact Nat.zero_lt_succ _⟩,fun b hb=>?_⟩
  have h0:noSt.has b=false:=by
    unfold noSt St.has St.word
    split
    · simp
    · split
      · simp
      · split<;>simp
  rw[h0]
  constructor
  · intro q;cases q
  · rintro ⟨y,hy,_⟩;cases hy
theorem BytesOf.skip {ns:List Nd} {k y:Int} {ms:List Int} {U:St} (h:BytesOf ns k ms U) (hy:kd ns y≠2):BytesOf ns k (ms++[y]) U:=by
  refine ⟨h.1,fun b hb=>?_⟩
  rw[h.2 b hb]
  constructor
  · rintro ⟨z,hz,q⟩;exact ⟨z,List.mem_append_left _ hz,q⟩
  · rintro ⟨z,hz,q⟩
    rcases List.mem_append.1 hz with hz | hz
    · exact ⟨z,hz,q⟩
    · rw[List.mem_singleton.1 hz] at q;exact absurd q.1 hy
theorem BytesOf.or {ns:List Nd} {y:Int} {ms:List Int} {U:St} (h:BytesOf ns 4 ms U) (hy:kd ns y=2) (ho:(ndAt ns y.toNat).set.Ok):BytesOf ns 4 (ms++[y]) (U.or (ndAt ns y.toNat).set):=by
  refine ⟨St.or_ok h.1 ho,fun b hb=>?_⟩
  have e:(decide ((4:Int)=5))=false:=rfl
  have:=h.2 b hb
  rw[e,Bool.bne_false] at this
  rw[e,Bool.bne_false,has_or,Bool.or_eq_true,this]
  constructor
  · rintro (⟨z,hz,q1,q2⟩ | q)
    · exact ⟨z,List.mem_append_left _ hz,q1,q2⟩
    · exact ⟨y,List.mem_append_right _ (by simp),hy,by rw[Bool.bne_false];exact q⟩
  · rintro ⟨z,hz,q1,q2⟩
    rcases List.mem_append.1 hz with hz | hz
    · exact Or.inl ⟨z,hz,q1,q2⟩
    · rw[List.mem_singleton.1 hz,Bool.bne_false] at q2;exact Or.inr q2
theorem filter_snoc_yes {p:Int→Bool} {l:List Int} {y:Int} (h:p y=true):(l++[y]).filter p=l.filter p++[y]:=by rw[List.filter_append];simp[h]
theorem filter_snoc_no {p:Int→Bool} {l:List Int} {y:Int} (h:p y=false):(l++[y]).filter p=l.filter p:=by rw[List.filter_append];simp[h]
section
variable {AA:World→Value→List Nd→(Nat→Prop)→Prop}
structure OrI (w:World) (ns:List Nd) (k:Int) (ms:List Int) (u0:Nat) (j:Nat) (v6 v17:Value) (U:St) (wr:World):Prop where
  row:IdRow wr (w.heap.size+1) v6 ((ms.take j).filter (otherB ns k))
  src:IdRow wr (w.heap.size+1) v17 ms
  apart:v6.ownBlock=none∨v6.ownBlock≠v17.ownBlock
  set:At wr u0 24 (setC U)
  bytes:BytesOf ns k (ms.take j) U
  top:∀y∈ms.take j,topB ns k y=false
  below:Below w.heap.size w wr
  size:w.heap.size+1≤wr.heap.size
theorem OrI.next {w:World} {ns:List Nd} {k:Int} {ms:List Int} {u0 j:Nat} {v6 v17:Value} {U:St} {wr w':World} (h:OrI w ns k ms u0 j v6 v17 U wr) (hb:Below wr.heap.size wr w'):OrI w ns k ms u0 j v6 v17 U w' :=
  ⟨h.row.next hb,h.src.next hb,h.apart,(hb.block _ h.set.lt).trans h.set,h.bytes,h.top,h.below.trans (hb.mono h.below.size),Nat.le_trans h.size hb.size⟩
theorem take_snoc {ms:List Int} {j:Nat} (h:j<ms.length):ms.take (j+1)=ms.take j++[ms[j]]:=by rw[List.take_add_one,List.getElem?_eq_getElem h];rfl
theorem OrI.bytesStep {w:World} {ns:List Nd} {k:Int} {ms:List Int} {j:Nat} {v6 v17:Value} {U U':St} {wr:World} (h:OrI w ns k ms w.heap.size j v6 v17 U wr) (hj:j<ms.length) (hk:k=4∨k=5) (h2:kd ns (ms[j])=2) (hU:BytesOf ns k (ms.take j++[ms[j]]) U'):OrI w ns k ms w.heap.size (j+1) v6 v17 U' (wr.setRow w.heap.size (setC U')):=by
  have hno:otherB ns k (ms[j])=false:=by unfold otherB;rw[decide_eq_true h2];rfl
  have hot:∀b,b≠w.heap.size→(wr.setRow w.heap.size (setC U')).heap[b]?=wr.heap[b]?:=fun b hb=>setRow_other _ _ _ _ hb
  have hgb:wr.grownBy (wr.setRow w.heap.size (setC U')) (some w.heap.size):=⟨rfl,rfl,rfl,by rw[setRow_size];exact Nat.le_refl _,fun b _ hn=>hot b (fun e=>hn (by rw[e]))⟩
  refine ⟨?_,h.src.grown hgb (fun c e q=>by injection e with e;have:=(h.src.lt q).1;omega),h.apart,At.row h.set _,by rw[take_snoc hj];exact hU,fun y hy=>?_,?_,by rw[setRow_size];exact h.size⟩
  · rw[take_snoc hj,filter_snoc_no hno]
    exact h.row.grown hgb (fun c e q=>by injection e with e;have:=(h.row.lt q).1;omega)
  · rw[take_snoc hj] at hy
    rcases List.mem_append.1 hy with hy | hy
    · exact h.top y hy
    · rw[List.mem_singleton.1 hy]
      cases q:topB ns k (ms[j]) with
      | false=>rfl
      | true=>have:=topB_kind q;omega
  · exact h.below.grown hgb h.below.size (fun c e=>by injection e with e;omega)
theorem OrI.skipStep {w:World} {ns:List Nd} {k:Int} {ms:List Int} {u0 j:Nat} {v6 v17:Value} {U:St} {wr:World} (h:OrI w ns k ms u0 j v6 v17 U wr) (hj:j<ms.length) (h2:kd ns (ms[j])≠2) (hu:unitB ns k (ms[j])=true) (ht:topB ns k (ms[j])=false):OrI w ns k ms u0 (j+1) v6 v17 U wr:=by
  have hno:otherB ns k (ms[j])=false:=by unfold otherB;rw[hu];simp
  refine ⟨by rw[take_snoc hj,filter_snoc_no hno];exact h.row,h.src,h.apart,h.set,by rw[take_snoc hj];exact h.bytes.skip h2,fun y hy=>?_,h.below,h.size⟩
  rw[take_snoc hj] at hy
  rcases List.mem_append.1 hy with hy | hy
  · exact h.top y hy
  · rw[List.mem_singleton.1 hy];exact ht
theorem OrI.otherStep {w:World} {ns:List Nd} {k:Int} {ms:List Int} {j:Nat} {v6 v6' v17:Value} {U:St} {wr w':World} (h:OrI w ns k ms w.heap.size j v6 v17 U wr) (hj:j<ms.length) (h2:kd ns (ms[j])≠2) (hu:unitB ns k (ms[j])=false) (ht:topB ns k (ms[j])=false)
    (hr:w'.ownsRow (w.heap.size+1) 3 1 v6' (((ms.take j).filter (otherB ns k)).length+1) (idL ((ms.take j).filter (otherB ns k))++[.int .i64 (ms[j])])) (hg:wr.grownBy w' v6.ownBlock) (hat:v6'.ownBlock=v6.ownBlock∨v6'.ownBlock=some wr.heap.size):OrI w ns k ms w.heap.size (j+1) v6' v17 U w':=by
  have hyes:otherB ns k (ms[j])=true:=by unfold otherB;rw[decide_eq_false h2,hu];rfl
  refine ⟨?_,h.src.grown hg (fun c e q=>?_),?_,(hg.block _ h.set.lt (fun e=>by have:=(h.row.lt e.symm).1;omega)).trans h.set,by rw[take_snoc hj];exact h.bytes.skip h2,fun y hy=>?_,h.below.grown hg h.below.size (fun c e=>by have:=(h.row.lt e).1;omega),Nat.le_trans h.size hg.size⟩
  · rw[take_snoc hj,filter_snoc_yes hyes]
    unfold IdRow
    rw[List.length_append]
    unfold idL
    rw[List.map_append]
    exact hr
  · rcases h.apart with z | z
    · rw[z] at e;cases e
    · exact z (by rw[e,q])
  · rcases hat with z | z
    · rw[z];exact h.apart
    · right
      rw[z]
      intro q
      have:=(h.src.lt q.symm).2
      omega
  · rw[take_snoc hj] at hy
    rcases List.mem_append.1 hy with hy | hy
    · exact h.top y hy
    · rw[List.mem_singleton.1 hy];exact ht
theorem nOr (S:ArenaMap AA) {w:World} {a v:Value} {ns:List Nd} {F:Nat→Prop} (l:List Int) (h:AA w a ns F) (hc:Canon ns) (hv:ListAt w v l) (hI:∀x∈l,isIn ns x) (hroom:ns.length+memN ns 4 l+4≤20000) :
    Calls Tryz.prog 57 #[a,v] w (Grows AA w a ns F (JoinG ns 4 l)):=by
  have hmx:=S.max h
  have hll:l.length≤20000:=by
    have:l.length≤memN ns 4 l:=by
      unfold memN
      have:∀m:List Int,(∀x∈m,isIn ns x)→m.length≤(m.map (fun x=>(mem ns 4 x).length)).sum:=by
        intro m
        induction m with
        | nil=>intro _;exact Nat.zero_le _
        | cons x m ih =>
          intro hm
          obtain ⟨y,hy⟩:=mem_ne hc.fine (Or.inl rfl) (hm x (by simp)) (k:=4)
          have:=List.length_pos_of_mem hy
          have:=ih (fun z hz=>hm z (List.mem_cons_of_mem _ hz))
          simp
          omega
      exact this l hI
    omega
  have HTh:=Lib.hid (nThere S.toArenaMid l h hv hll hI)
  have HA:=Lib.hid h
  have HC:=Lib.hid hc
  have HI:=Lib.hid hI
  have HRoom:=Lib.hid hroom
  have hb1:Below w.heap.size w (w.alloc (.cells (setC noSt) 24)):=(Below.refl _ _).alloc (Nat.le_refl _) _
  have HMe:Hid (Calls Tryz.prog 73 #[a,.int .i64 4,v] (w.alloc (.cells #[.int .u64 0,.int .u64 0,.int .u64 0,.int .u64 0] 24)) fun e w'=>∃v' ms,e=.returned v'∧IdRow w' (w.heap.size+1) v' ms∧ms.Nodup∧(∀y,y∈ms↔∃x∈l,y∈mem ns 4 x)∧Below (w.heap.size+1) (w.alloc (.cells (setC noSt) 24)) w'):=Lib.hid (by
    have:=nMembers S.toArenaMid 4 (Or.inl rfl) l (S.next h hb1) (hv.next hb1) hll hI
    rw[World.size_alloc] at this
    exact this)
  have HB1:=Lib.hid hb1
  obtain ⟨gp,rfl⟩:=S.ptr h
  obtain ⟨i0,hi0,hi1,hi2,hi3⟩:=info_parts info_intR
  clear h hc hv hI hroom hb1
  go_enter Tryz.func57,Tryz.ntmps57
  go_wp2_with fail
  refine HTh.out.mono ?_
  rintro e w1 ⟨rfl,hw1⟩
  obtain rfl:w=w1:=hw1.symm
  go_wp2_with fail
  refine HMe.out.mono ?_
  rintro e w2 ⟨v2,ms,rfl,hr2,hnd,hiff,hb2⟩
  have HCol:Hid (Coll ns 4 l ms):=Lib.hid ⟨HI.out,hnd,hiff⟩
  have hB2:Below w.heap.size w w2:=HB1.out.trans (hb2.mono (Nat.le_succ _))
  have hS2:w.heap.size+1≤w2.heap.size:=by have:=hb2.size;simpa using this
  have HO2:Hid (OrI w ns 4 ms w.heap.size 0 (.slice none 0 0) v2 noSt w2):=Lib.hid ⟨IdRow.nil _ _,hr2,Or.inl rfl,(hb2.block _ (Nat.lt_succ_self _)).trans (At.new w _ _),BytesOf.nil,(by intro y hy;cases hy),hB2,hS2⟩
  obtain ⟨A2,c2,rfl⟩:=hr2.len
  have HFew:Hid (ms.length≤memN ns 4 l):=Lib.hid (HCol.out.few HC.out (Or.inl rfl))
  have hmsb:ms.length≤20000:=by have:=HFew.out;have:=HRoom.out;omega
  clear hr2 hnd hiff hb2 hB2 hS2 HTh HMe
  go_wp2_with fail
  go_loopw [6,19] (fun v6 x wr=>∃(j:Nat) (U:St),j≤ms.length∧x=.int .i64 j∧Hid (OrI w ns 4 ms w.heap.size j v6 (.slice A2 ms.length c2) U wr)) (fun _ x _=>ms.length-(intOf x).toNat)
  case atStart=>exact ⟨0,noSt,Nat.zero_le _,rfl,HO2⟩
  case round =>
    clear HO2 HB1
    obtain ⟨j,U,hj,rfl,HO⟩:=hrel
    by_cases hjl:j<ms.length
    · have hjz:(0:Int)≤(j:Int):=by omega
      have hjn:(j:Int)<(ms.length:Int):=by omega
      obtain ⟨g2,cap2,e2,hcs⟩:=HO.out.src.form (by omega)
      injection e2 with e2 e4 e3
      clear e4
      subst e2 e3
      have cy:=hcs j hjl
      obtain ⟨y,hy⟩:∃y,y=ms[j]:=⟨_,rfl⟩
      rw[←hy] at cy
      have HYe:=Lib.hid hy
      have hym:y∈ms:=by rw[hy];exact List.getElem_mem _
      have HYm:=Lib.hid hym
      have hyi:=(HCol.out.inn HC.out (Or.inl rfl) hym).1
      have HYi:=Lib.hid hyi
      have hyI:I64 y:=by unfold isIn at hyi;unfold I64;omega
      have HN:=Lib.hid (S.nodeIn y (S.next HA.out HO.out.below) hyI)
      have hdx:decide (0≤y∧y<(ns.length:Int))=true:=decide_eq_true hyi
      clear hcs hy hym hyi
      go_wp2_with fail
      refine HN.out.mono ?_
      rintro e w4 ⟨u,rfl,hu,hb4⟩
      have hu:=hu HYi.out
      rw[hdx]
      have HU:=Lib.hid hu
      have HKx:Hid (kd ns y=u.kind):=Lib.hid (by unfold kd;rw[←hu])
      have HXb:=Lib.hid (boxN_at w4 u)
      have hb5:=hb4.trans ((boxN_next w4 u).mono hb4.size)
      have HO5:=Lib.hid (HO.out.next hb5)
      have HIA:=Lib.hid (nIsAll S.toArenaMid y u (S.next HA.out HO5.out.below) HYi.out hu)
      have hcl:u.cs.length=8:=rfl
      clear hu hb4 hb5 hdx cy
      go_wp2_with (first
        | (with_reducible show wpList _ _ _ (⟨none,.store 61 _ _,_,_,_,_⟩::_) _ _
           refine wpList_store_row rfl 61 _ _ rfl w4.heap.size u.cs.toArray rfl rfl 61 Nd.zero.cs.toArray (At.new _ _ _) (by kernel_rfl) rfl (Nd.one u) ?_
           first | change wpList _ _ _ _ _ (boxN w4 u) | change Exit.then _ _ _ _ (boxN w4 u))
        | (with_reducible show wpList _ _ _ (⟨_,.load 61 (.tmp 9),_,_,_,_⟩::_) _ _
           refine wpList_load_row_want (by rfl) 61 _ rfl w4.heap.size rfl 61 u.cs.toArray (0,0) _ HXb.out Tryz.underlying61 rfl (by rw[List.size_toArray,Nd.cs_length];kernel_rfl) ?_)
        | fail)
      refine HIA.out.mono ?_
      rintro e w5 ⟨rfl,hb5⟩
      have HO6:=Lib.hid (HO5.out.next hb5)
      have HX6:Hid (At w5 w4.heap.size 61 u.cs.toArray):=Lib.hid ((hb5.block _ HXb.out.lt).trans HXb.out)
      clear hb5
      by_cases hal:isAl ns y=true
      · have HAl:=Lib.hid hal
        rw[hal]
        clear hal
        go_wp2_with fail
        go_ret
        have hj0:=HCol.out.top HC.out (Or.inl rfl) HYm.out (show topB ns 4 y=true from HAl.out)
        exact ⟨y,[],F,rfl,by rw[List.append_nil];exact S.next HA.out HO6.out.below,fun b q=>Or.inl q,OffF.of HO6.out.below,by rw[List.append_nil];exact HC.out,by rw[List.append_nil];exact HYi.out,by rw[List.append_nil];exact hj0,Nat.zero_le _,fun _=>Nat.zero_le _⟩
      · have HAl:Hid (topB ns 4 y=false):=Lib.hid (by show isAl ns y=false;cases q:isAl ns y with | false=>rfl | true=>exact absurd q hal)
        have hal':isAl ns y=false:=HAl.out
        rw[hal']
        clear hal hal'
        obtain ⟨c0,c1,c2,c3,c4,c5,c6,c7⟩:=Nd.cells HX6.out
        by_cases hk2:u.kind=2
        · have HK2:Hid (kd ns y=2):=Lib.hid (HKx.out.trans hk2)
          rw[hk2] at c0
          have hset:=HO6.out.set
          have s0:w5.cell? ⟨w.heap.size,0,none⟩=some (.int .u64 U.w0):=hset.cell 0
          have s1:w5.cell? ⟨w.heap.size,1,none⟩=some (.int .u64 U.w1):=hset.cell 1
          have s2:w5.cell? ⟨w.heap.size,2,none⟩=some (.int .u64 U.w2):=hset.cell 2
          have s3:w5.cell? ⟨w.heap.size,3,none⟩=some (.int .u64 U.w3):=hset.cell 3
          have hsok:u.set.Ok:=by have:=(fine_nd HC.out.fine HYi.out).2;rw[←HU.out] at this;exact this.2.1
          have HUn:=Lib.hid (setUnion U u.set HO6.out.bytes.1 hsok w5)
          have HBy:Hid (BytesOf ns 4 (ms.take j++[y]) (U.or u.set)):=Lib.hid (by
            have:=HO6.out.bytes.or HK2.out (by rw[←HU.out];exact hsok)
            rw[←HU.out] at this;exact this)
          clear hk2 hset hsok
          go_wp2_with fail
          refine HUn.out.mono ?_
          rintro e w6 ⟨rfl,hb6⟩
          have HO7:=Lib.hid (HO6.out.next hb6)
          have hset:=HO7.out.set
          clear hb6 s0 s1 s2 s3
          go_wp2_with (first
            | (with_reducible show wpList _ _ _ (⟨none,.store 24 _ _,_,_,_,_⟩::_) _ _
               refine wpList_store_row rfl 24 _ _ rfl w.heap.size (setC (U.or u.set)) rfl rfl 24 (setC U) hset (by kernel_rfl) rfl (setC_one _) ?_
               obtain ⟨w7,hw7⟩:∃w7,w7=w6.setRow w.heap.size (setC (U.or u.set)):=⟨_,rfl⟩
               rw[←hw7])
            | fail)
          go_roundw
          case rel=>exact ⟨j+1,U.or u.set,by omega,by go_num,Lib.hid (by exact HO7.out.bytesStep hjl (Or.inl rfl) (by rw[←HYe.out];exact HK2.out) (by rw[←HYe.out];exact HBy.out))⟩
          case measure=>simp[intOf];omega
        · have HK2:Hid (kd ns y≠2):=Lib.hid (fun q=>hk2 (HKx.out.symm.trans q))
          have hk2b:=(int_ne hk2).1
          clear hk2
          by_cases hk0:u.kind=0
          · have HK0:Hid (unitB ns 4 y=true):=Lib.hid (by show isNo ns y=true;exact decide_eq_true (HKx.out.trans hk0))
            rw[hk0] at c0 hk2b
            clear hk0
            go_wp2_with fail
            go_roundw
            case rel=>exact ⟨j+1,U,by omega,by go_num,Lib.hid (by exact HO6.out.skipStep hjl (by rw[←HYe.out];exact HK2.out) (by rw[←HYe.out];exact HK0.out) (by rw[←HYe.out];exact HAl.out))⟩
            case measure=>simp[intOf];omega
          · have HK0:Hid (unitB ns 4 y=false):=Lib.hid (by show isNo ns y=false;exact decide_eq_false (fun q=>hk0 (HKx.out.symm.trans q)))
            have hk0b:=(int_ne hk0).2
            have hk0c:=(int_ne hk0).1
            have hal2:Below w5.heap.size w5 (w5.alloc (.cells #[.int .i64 y] 3)):=(Below.refl _ _).alloc (Nat.le_refl _) _
            have HO7:=Lib.hid (HO6.out.next hal2)
            have HRw:=Lib.hid HO7.out.row
            have hZ7:=HO7.out.size
            have hfl:((ms.take j).filter (otherB ns 4)).length≤20000:=by
              have:=List.length_filter_le (otherB ns 4) (ms.take j)
              rw[List.length_take] at this
              omega
            clear hk0 hal2
            go_wp2_with (first
              | (at_builtin
                 refine wpList_append_own_at _ rfl _ _ _ rfl (w.heap.size+1) 3 i0 _ 1 8 Tryz.underlying73 hi0 hi1 hi2 hi3 rfl (by omega) u6 _ _ rfl HRw.out ⟨_,0,none⟩ 1 1 [.int .i64 y] rfl rfl (cell_one_new _ _ _) ?c2 ?c3 ?c4 ?c5 ?_
                 case c2=>simp[Value.oneCell']
                 case c3=>unfold maxLen;omega
                 case c4=>omega
                 case c5=>exact hZ7
                 intro v' w8 hown8 hg8 _ hat8)
              | fail)
            go_roundw
            case rel=>exact ⟨j+1,U,by omega,by go_num,Lib.hid (by exact HO7.out.otherStep hjl (by rw[←HYe.out];exact HK2.out) (by rw[←HYe.out];exact HK0.out) (by rw[←HYe.out];exact HAl.out) (by rw[←HYe.out];exact hown8) hg8 hat8)⟩
            case measure=>simp[intOf];omega
    · obtain rfl:j=ms.length:=by omega
      obtain ⟨hrow,hsrc,hap,hset,hby,htop,hbel,hsz⟩:=HO.out
      rw[List.take_length] at hrow hby htop
      obtain ⟨ot,hot⟩:∃ot,ot=ms.filter (otherB ns 4):=⟨_,rfl⟩
      rw[←hot] at hrow
      have HOt:=Lib.hid hot
      have HRow:=Lib.hid hrow
      have HBy:=Lib.hid hby
      have HTop:=Lib.hid htop
      have HBel:=Lib.hid hbel
      have HSz:=Lib.hid hsz
      have HU:Hid ((U.list.length=0→∀y∈ms,kd ns y≠2)∧(U.list.length≠0→∃y∈ms,kd ns y=2)):=Lib.hid (by
        have hb:∀b,b<256→(U.has b=true↔∃y∈ms,kd ns y=2∧(ndAt ns y.toNat).set.has b=true):=fun b hb=>by
          have:=hby.2 b hb
          rw[show decide ((4:Int)=5)=false from rfl,Bool.bne_false] at this
          simpa using this
        refine ⟨fun q y hy h2=>?_,fun q=>?_⟩
        · obtain ⟨b,hb256,hh⟩:=HC.out.bytes y (HCol.out.inn HC.out (Or.inl rfl) hy).1 h2
          have h1:=(hb b hb256).2 ⟨y,hy,h2,hh⟩
          rw[list_none.1 q b hb256] at h1;cases h1
        · refine Classical.byContradiction fun hno=>q (list_none.2 (fun b hb256=>?_))
          cases e:U.has b with
          | false=>rfl
          | true =>
            obtain ⟨y,hy,h2,_⟩:=(hb b hb256).1 e
            exact absurd ⟨y,hy,h2⟩ hno)
      have hotl:ot.length≤20000:=by
        have:=List.length_filter_le (otherB ns 4) ms
        rw[←hot] at this
        omega
      have s0:wr.cell? ⟨w.heap.size,0,none⟩=some (.int .u64 U.w0):=hset.cell 0
      have s1:wr.cell? ⟨w.heap.size,1,none⟩=some (.int .u64 U.w1):=hset.cell 1
      have s2:wr.cell? ⟨w.heap.size,2,none⟩=some (.int .u64 U.w2):=hset.cell 2
      have s3:wr.cell? ⟨w.heap.size,3,none⟩=some (.int .u64 U.w3):=hset.cell 3
      have HSet:=Lib.hid hset
      have HCt:=Lib.hid (setCount U hby.1 wr)
      obtain ⟨A6,c6,e6⟩:=hrow.len
      subst e6
      clear hrow hsrc hap hset hby htop hbel hsz hot HO
      go_wp2_with fail
      refine HCt.out.mono ?_
      rintro e w5 ⟨rfl,hb5⟩
      have HB5:=Lib.hid (HBel.out.trans (hb5.mono HBel.out.size))
      have HRow5:=Lib.hid (HRow.out.next hb5)
      have HSz5:Hid (w.heap.size+1≤w5.heap.size):=Lib.hid (Nat.le_trans HSz.out hb5.size)
      have hset5:At w5 w.heap.size 24 (setC U):=(hb5.block _ HSet.out.lt).trans HSet.out
      have HA5:=Lib.hid (S.next HA.out HB5.out)
      obtain ⟨n,hn⟩:∃n,n=U.list.length:=⟨_,rfl⟩
      rw[←hn]
      have HNn:=Lib.hid hn
      clear s0 s1 s2 s3 hb5 hn
      by_cases hn0:n=0
      · have HNo:Hid (∀y∈ms,kd ns y≠2):=Lib.hid (HU.out.1 (by rw[←HNn.out];exact hn0))
        subst hn0
        by_cases ho0:ot.length=0
        · have HUn:Hid (∀y∈ms,unitB ns 4 y=true):=Lib.hid (fun y hy=>by
            cases q:unitB ns 4 y with
            | true=>rfl
            | false =>
              have:y∈ot:=by rw[HOt.out];exact List.mem_filter.2 ⟨hy,by unfold otherB;rw[decide_eq_false (HNo.out y hy),q];rfl⟩
              rw[List.length_eq_zero_iff] at ho0
              rw[ho0] at this;cases this)
          have HP:=Lib.hid (nNone S.toArenaMid HA5.out HC.out (by have:=HRoom.out;omega))
          have ho0':((ot.length:Int)==0)=true:=by rw[ho0];rfl
          rw[ho0]
          clear ho0 ho0'
          go_wp2_with fail
          refine HP.out.mono ?_
          rintro e w6 gr
          obtain ⟨r,_,_,rfl,_⟩:=id gr
          have HG:Hid (Grows AA w (.pointer (some ⟨gp,0,none⟩)) ns F (JoinG ns 4 l) (.returned (.int .i64 r)) w6):=Lib.hid (by
            obtain ⟨r',more,F',g0,g1,g2,g3,g4,g5,g6⟩:=gr.from HB5.out
            have hc2:=HCol.out.up HC.out (Or.inl rfl) more
            refine ⟨r',more,F',g0,g1,g2,g3,g4,g5,hc2.units g4 (Or.inl rfl) (fun y hy=>?_) g5 (show isNo (ns++more) r'=true from decide_eq_true g6.1),by have:=g6.2.1;omega,fun _=>by have:=g6.2.1;omega⟩
            rw[unitB_up HC.out.fine more (HCol.out.inn HC.out (Or.inl rfl) hy).1]
            exact HUn.out y hy)
          clear gr
          go_wp2_with fail
          go_ret
          exact HG.out
        · have HLO:Hid (ListOf ns [] 4 ms ot):=Lib.hid (Or.inl ⟨rfl,HOt.out,HNo.out⟩)
          have hob:((ot.length:Int)==0)=false:=(int_ne (by omega)).1
          have HJ:=Lib.hid (nJoined S 4 (Or.inl rfl) ot HA5.out HC.out HRow5.out (by omega) (fun b e q=>by have:=(HRow5.out.lt e).1;have:=S.low HA.out b q;omega) (by have:=HLO.out.good HC.out (Or.inl rfl) HCol.out HTop.out;rw[List.append_nil] at this;exact this) (by have:=HLO.out.few HC.out (Or.inl rfl) HCol.out;have:=HFew.out;have:=HRoom.out;omega))
          clear ho0
          go_wp2_with fail
          refine HJ.out.mono ?_
          rintro e w6 jp
          obtain ⟨r,_,_,rfl,_⟩:=id jp
          have HG:Hid (Grows AA w (.pointer (some ⟨gp,0,none⟩)) ns F (JoinG ns 4 l) (.returned (.int .i64 r)) w6):=Lib.hid (joined_fin HC.out (Or.inl rfl) (m1:=[]) HCol.out HTop.out HLO.out (by simp) (fun b q=>Or.inl q) (OffF.of HB5.out) (by rw[List.append_nil];exact HC.out) (fun b e=>by have:=(HRow5.out.lt e).1;omega) HB5.out.size (by rw[List.append_nil];exact jp))
          clear jp
          go_wp2_with fail
          go_ret
          exact HG.out
      · have HNe:Hid (U.list.length≠0):=Lib.hid (by rw[←HNn.out];exact hn0)
        have hnz:(0:Int)<(n:Int):=by omega
        have hnz2:decide ((0:Int)<(n:Int))=true:=decide_eq_true hnz
        have s0:w5.cell? ⟨w.heap.size,0,none⟩=some (.int .u64 U.w0):=hset5.cell 0
        have s1:w5.cell? ⟨w.heap.size,1,none⟩=some (.int .u64 U.w1):=hset5.cell 1
        have s2:w5.cell? ⟨w.heap.size,2,none⟩=some (.int .u64 U.w2):=hset5.cell 2
        have s3:w5.cell? ⟨w.heap.size,3,none⟩=some (.int .u64 U.w3):=hset5.cell 3
        have HP:=Lib.hid (nBytes S.toArenaMid U HA5.out HC.out HBy.out.1 (by have:=HRoom.out;omega))
        clear hn0 hset5
        go_wp2_with fail
        refine HP.out.mono ?_
        rintro e w6 ⟨b,m1,F1,rfl,g1,g2,g3,g4,g5,g6⟩
        have hnb:ndAt (ns++m1) b.toNat=⟨2,U,0,0,false⟩:=by
          rcases g6.1 with ⟨q,_⟩ | ⟨_,q⟩
          · exact absurd q HNe.out
          · exact q
        have hot6:∀c,F c→(Value.slice A6 ot.length c6).ownBlock≠some c:=fun c q e=>by have:=(HRow5.out.lt e).1;have:=S.low HA.out c q;omega
        have hr6:=HRow5.out.off g3 hot6
        have hal:Below w6.heap.size w6 (w6.alloc (.cells #[.int .i64 b] 3)):=(Below.refl _ _).alloc (Nat.le_refl _) _
        have HRw:=Lib.hid (hr6.next hal)
        have HAl:=Lib.hid hal
        have HG1:=Lib.hid g1
        have HG2:=Lib.hid g2
        have HO6:Hid (OffF F w w6):=Lib.hid ((OffF.of HB5.out).off g3 (fun b q=>Or.inl q))
        have HG4:=Lib.hid g4
        have HLO:Hid (ListOf ns m1 4 ms (ot++[b])):=Lib.hid (Or.inr ⟨b,U,by rw[HOt.out],g5,hnb,HBy.out,HU.out.2 HNe.out⟩)
        have HM1:Hid (m1.length≤1):=Lib.hid g6.2.1
        have HS6:Hid (w5.heap.size≤w6.heap.size):=Lib.hid g3.size
        have hz7:w.heap.size+1≤(w6.alloc (.cells #[.int .i64 b] 3)).heap.size:=by rw[World.size_alloc];have:=HSz5.out;have:=HS6.out;omega
        clear g1 g2 g3 g4 g5 g6 hnb hot6 hr6 hal s0 s1 s2 s3
        go_wp2_with (first
          | (at_builtin
             refine wpList_append_own_at _ rfl _ _ _ rfl (w.heap.size+1) 3 i0 _ 1 8 Tryz.underlying73 hi0 hi1 hi2 hi3 rfl (by omega) (.slice A6 ot.length c6) _ _ rfl HRw.out ⟨_,0,none⟩ 1 1 [.int .i64 b] rfl rfl (cell_one_new _ _ _) ?c2 ?c3 ?c4 ?c5 ?_
             case c2=>simp[Value.oneCell']
             case c3=>unfold maxLen;omega
             case c4=>omega
             case c5=>exact hz7
             intro v8 w8 hown8 hg8 _ hat8
             have hr8:IdRow w8 (w.heap.size+1) v8 (ot++[b]):=by
               unfold IdRow
               rw[List.length_append]
               unfold idL
               rw[List.map_append]
               exact hown8
             obtain ⟨A8,c8,e8⟩:=hr8.len
             rw[List.length_append,List.length_singleton] at e8
             have HR8:=Lib.hid hr8
             have HG8:=Lib.hid hg8
             have HAt8:=Lib.hid hat8
             clear hown8 hg8 hat8 hr8
             subst e8)
          | fail)
        have hfl:∀c,F1 c→(Value.slice A6 ot.length c6).ownBlock≠some c:=fun c q e=>by
          rcases HG2.out c q with z | z
          · have:=(HRow5.out.lt e).1;have:=S.low HA.out c z;omega
          · have:=(HRow5.out.lt e).2;omega
        have hA8:AA w8 (.pointer (some ⟨gp,0,none⟩)) (ns++m1) F1:=S.keep (S.next HG1.out HAl.out) (fun c q=>HG8.out.block c (by have:=S.low HG1.out c q;have:=HAl.out.size;omega) (fun e=>hfl c q e.symm))
        have hO8:OffF F w w8:=(HO6.out.then HAl.out).grown HG8.out (fun c e=>Or.inr (by have:=(HRow5.out.lt e).1;omega))
        have hnF:∀c,(Value.slice A8 (ot.length+1) c8).ownBlock=some c→¬F1 c:=fun c e q=>by
          rcases HAt8.out with z | z
          · exact hfl c q (z.symm.trans e)
          · rw[e] at z
            injection z with z
            have:=S.low HG1.out c q
            rw[z,World.size_alloc] at this
            omega
        have HJ:=Lib.hid (nJoined S 4 (Or.inl rfl) (ot++[b]) hA8 HG4.out HR8.out (by simp) hnF (HLO.out.good HC.out (Or.inl rfl) HCol.out HTop.out) (by have:=HLO.out.few HC.out (Or.inl rfl) HCol.out;have:=HFew.out;have:=HRoom.out;have:=HM1.out;rw[List.length_append];omega))
        have HO8:=Lib.hid hO8
        clear hfl hA8 hO8 hnF
        have hol:(((ot.length:Int)+1)==0)=false:=(int_ne (by omega)).1
        go_wp2_with fail
        refine HJ.out.mono ?_
        rintro e w9 jp
        obtain ⟨r,_,_,rfl,_⟩:=id jp
        have HG:Hid (Grows AA w (.pointer (some ⟨gp,0,none⟩)) ns F (JoinG ns 4 l) (.returned (.int .i64 r)) w9):=Lib.hid (joined_fin HC.out (Or.inl rfl) HCol.out HTop.out HLO.out HM1.out (fun c q=>by
            rcases HG2.out c q with z | z
            · exact Or.inl z
            · exact Or.inr (Nat.le_trans HB5.out.size z)) HO8.out HG4.out (fun c e=>by have:=(HR8.out.lt e).1;omega) HO8.out.size jp)
        clear jp
        go_wp2_with fail
        go_ret
        exact HG.out
end
end Go.Proofs.YtgmpfnfomgadeaaGreat
