/- Joined: NormEasy2, BlT, BlU. -/
import Derived.Test.YtgmpfnfomgadeaaGreatMav
import Derived.Test.YtgmpfnfomgadeaaGreatMag
import Derived.Test.YtgmpfnfomgadeaaGreatMaw
import Derived.Test.YtgmpfnfomgadeaaGreatMad
import Derived.Test.YtgmpfnfomgadeaaGreatMae
import Derived.Test.YtgmpfnfomgadeaaGreatMaa
/- All, there, kind, isAll, Star, Bytes of norm. -/
set_option linter.unusedSimpArgs false
set_option linter.unusedVariables false
set_option maxHeartbeats 4000000
set_option maxRecDepth 100000
namespace Go.Proofs.YtgmpfnfomgadeaaGreat
open Go.RowKit
section
variable {AA:World→Value→List Nd→(Nat→Prop)→Prop}
theorem Grows.seq {w w1 w2:World} {a:Value} {ns more1:List Nd} {F F1:Nat→Prop} {R:List Nd→Int→Prop} {e:Ending} (g2:∀b,F1 b→F b∨w.heap.size≤b) (g3:OffF F w w1) (g:Grows AA w1 a (ns++more1) F1 R e w2):Grows AA w a ns F (fun more r=>∃m2,more=more1++m2∧R m2 r) e w2:=by
  obtain ⟨r,m2,F2,k0,k1,k2,k3,k4,k5,k6⟩:=g
  refine ⟨r,more1++m2,F2,k0,by rw[←List.append_assoc];exact k1,fun b q=>?_,g3.off k3 g2,by rw[←List.append_assoc];exact k4,by rw[←List.append_assoc];exact k5,m2,rfl,k6⟩
  rcases k2 b q with q | q
  · exact g2 b q
  · exact Or.inr (Nat.le_trans g3.size q)
theorem nAll (S:ArenaMid AA) {w:World} {a:Value} {ns:List Nd} {F:Nat→Prop} (h:AA w a ns F) (hc:Canon ns) (hroom:ns.length+4≤20000):Calls Tryz.prog 79 #[a] w (Grows AA w a ns F fun more r=>isAl (ns++more) r=true∧more.length≤2):=by
  have HP:=Lib.hid (nNone S h hc hroom)
  clear h hc
  go_enter Tryz.func79,Tryz.ntmps79
  go_wp2_with fail
  refine HP.out.mono ?_
  rintro e w1 ⟨r1,more1,F1,rfl,g1,g2,g3,g4,g5,g6,g7,g8⟩
  have HQ:=Lib.hid (nNot S r1 g1 g4 g5 (by rw[List.length_append];omega))
  have H2:=Lib.hid g2
  have H3:=Lib.hid g3
  have H4:=Lib.hid g4
  have H5:=Lib.hid g5
  have H6:=Lib.hid g6
  have H7:=Lib.hid g7
  clear g1 g2 g3 g4 g5 g6 g7 g8
  go_wp2_with fail
  refine HQ.out.mono ?_
  rintro e w2 g
  obtain ⟨r,_,_,rfl,_⟩:=id g
  have HG:=Lib.hid ((g.seq H2.out H3.out).mono (R':=fun more r=>isAl (ns++more) r=true∧more.length≤2) (by
    rintro more r ⟨m2,rfl,q1,q2,_⟩
    have hk:kd ((ns++more1)++m2) r1=0:=by rw[kd_up H5.out,H6.out]
    have hk1:kd (ns++more1) r1≠6:=by rw[H6.out];decide
    obtain ⟨k1,k2⟩:=q1.2.2 (by rw[kd_up H5.out];exact hk1)
    refine ⟨?_,by rw[List.length_append];have:=H7.out;omega⟩
    rw[←List.append_assoc]
    unfold isAl
    rw[k1,k2,hk];rfl))
  clear g
  go_wp2_with fail
  go_ret
  exact HG.out
theorem list_one (w:World) (x:Int) (t:TypeId):ListAt (w.alloc (.cells #[.int .i64 x] t)) (.slice (some ⟨w.heap.size,0,none⟩) 1 1) [x] :=
  ⟨_,_,rfl,fun _=>⟨w.heap.size,0,rfl,by simp,fun j hj=>by
    have h:=(At.new w t #[.int .i64 x]).cell (0+j)
    rw[h]
    have hj:j<1:=hj
    have:j=0:=by omega
    subst this;rfl⟩⟩
theorem ListAt.next {w w':World} {v:Value} {l:List Int} (h:ListAt w v l) (hb:Below w.heap.size w w'):ListAt w' v l:=by
  obtain ⟨A,c,rfl,h⟩:=h
  refine ⟨A,c,rfl,fun hl=>?_⟩
  obtain ⟨b,off,rfl,hlt,hc⟩:=h hl
  exact ⟨b,off,rfl,Nat.lt_of_lt_of_le hlt hb.size,fun j hj=>(hb.cell (p:=⟨b,off+j,none⟩) hlt).trans (hc j hj)⟩
theorem nThere (S:ArenaMid AA) {w:World} {a v:Value} {ns:List Nd} {F:Nat→Prop} (l:List Int) (h:AA w a ns F) (hv:ListAt w v l) (hl:l.length≤20000) (hI:∀x∈l,isIn ns x):Calls Tryz.prog 72 #[a,v] w fun e w'=>e=.returned (.bool true)∧w'=w:=by
  obtain ⟨A,c,rfl,hv⟩:=hv
  have HV:=Lib.hid hv
  have HI:=Lib.hid hI
  have hmx:=S.max h
  have HA:=Lib.hid h
  have HL:=Lib.hid (S.len h)
  clear hv hI h
  go_enter Tryz.func72,Tryz.ntmps72
  go_wp2_with fail
  go_loopw [9] (fun i wr=>∃j:Nat,j≤l.length∧i=.int .i64 j∧wr=w) (fun i _=>l.length-(intOf i).toNat)
  case atStart=>exact ⟨0,Nat.zero_le _,rfl,rfl⟩
  case round =>
    obtain ⟨j,hj,rfl,rfl⟩:=hrel
    by_cases hjl:j<l.length
    · obtain ⟨b,off,rfl,hlt,hc⟩:=HV.out (by omega)
      have hjz:(0:Int)≤(j:Int):=by omega
      have hjn:(j:Int)<(l.length:Int):=by omega
      have hin:=HI.out l[j] (List.getElem_mem hjl)
      have c0:=hc j hjl
      obtain ⟨x,hx⟩:∃x,l[j]=x:=⟨_,rfl⟩
      rw[hx] at hin c0
      unfold isIn at hin
      obtain ⟨hx0,hx1⟩:=hin
      have hxd0:decide (x<0)=false:=decide_eq_false (by omega)
      have hxd1:decide ((ns.length:Int)≤x)=false:=decide_eq_false (by omega)
      have hxn0:¬x<0:=by omega
      have hxn1:¬(ns.length:Int)≤x:=by omega
      clear hc hx
      go_wp2_with fail
      refine HL.out.mono ?_
      rintro e w1 ⟨rfl,rfl⟩
      go_wp2_with fail
      refine ⟨⟨j+1,by omega,by go_num,trivial⟩,by simp[intOf];omega⟩
    · obtain rfl:j=l.length:=by omega
      go_wp2_with fail
      go_ret
      exact ⟨rfl,rfl⟩
theorem nKind (S:ArenaMid AA) {w:World} {a:Value} {ns:List Nd} {F:Nat→Prop} (x:Int) (h:AA w a ns F) (hx:isIn ns x):Calls Tryz.prog 87 #[a,.int .i64 x] w fun e w'=>e=.returned (.int .i64 (kd ns x))∧Below w.heap.size w w':=by
  have hmx:=S.max h
  have HX:=Lib.hid hx
  have hxI:I64 x:=by unfold isIn at hx;unfold I64;omega
  have HN:=Lib.hid (S.nodeIn x h hxI)
  clear h hx
  go_enter Tryz.func87,Tryz.ntmps87
  go_wp2_with fail
  refine HN.out.mono ?_
  rintro e w1 ⟨y,rfl,hy,hb1⟩
  have hy:=hy HX.out
  have HB1:=Lib.hid hb1
  have HK:Hid (kd ns x=y.kind):=Lib.hid (by unfold kd;rw[←hy])
  have hone:=Nd.one y
  have HXb:=Lib.hid (boxN_at w1 y)
  have HBb:=Lib.hid (HB1.out.trans ((boxN_next w1 y).mono HB1.out.size))
  have ck:=(Nd.cells HXb.out).1
  clear hy hb1
  go_wp2_with (first
    | (with_reducible show wpList _ _ _ (⟨none,.store _ _ _,_,_,_,_⟩::_) _ _
       refine wpList_store_row rfl 61 _ _ rfl w1.heap.size y.cs.toArray rfl rfl 61 Nd.zero.cs.toArray (At.new _ _ _) (by kernel_rfl) rfl hone ?_
       first | change wpList _ _ _ _ _ (boxN w1 y) | change Exit.then _ _ _ _ (boxN w1 y))
    | fail)
  go_ret
  exact ⟨by rw[HK.out];rfl,HBb.out⟩
theorem nIsAll (S:ArenaMid AA) {w:World} {a:Value} {ns:List Nd} {F:Nat→Prop} (x:Int) (y:Nd) (h:AA w a ns F) (hx:isIn ns x) (hy:y=ndAt ns x.toNat):Calls Tryz.prog 74 #[a,.agg y.cs.toArray] w fun e w'=>e=.returned (.bool (isAl ns x))∧Below w.heap.size w w':=by
  have HX:=Lib.hid hx
  have HF:=Lib.hid (S.fine h)
  have HB:Hid (Below w.heap.size w (w.alloc (.cells y.cs.toArray 61))):=Lib.hid ((Below.refl _ _).alloc (Nat.le_refl _) _)
  have HA:=Lib.hid (S.next h HB.out)
  have HK:Hid (kd ns x=y.kind∧ka ns x=y.a):=Lib.hid ⟨by unfold kd;rw[hy],by unfold ka;rw[hy]⟩
  obtain ⟨c0,c1,c2,c3,c4,c5,c6,c7⟩:=Nd.cells (At.new w 61 y.cs.toArray)
  clear h hx hy
  by_cases hk:y.kind=6
  · have HC:=Lib.hid (nKind S y.a HA.out (by have:=(in_one HF.out HX.out (Or.inl (by rw[HK.out.1,hk]))).1;rwa [HK.out.2] at this))
    have HE:Hid (isAl ns x=decide (kd ns y.a=0)):=Lib.hid (by unfold isAl;rw[HK.out.1,HK.out.2,decide_eq_true hk,Bool.true_and])
    rw[hk] at c0
    clear hk
    go_enter Tryz.func74,Tryz.ntmps74
    go_wp2_with fail
    refine HC.out.mono ?_
    rintro e w1 ⟨rfl,hb⟩
    have HB1:=Lib.hid (HB.out.trans (hb.mono HB.out.size))
    clear hb
    go_wp2_with fail
    go_ret
    exact ⟨by rw[HE.out];rfl,HB1.out⟩
  · have HE:Hid (isAl ns x=false):=Lib.hid (by unfold isAl;rw[HK.out.1,decide_eq_false hk,Bool.false_and])
    have hkb:=(int_ne hk).1
    clear hk
    go_enter Tryz.func74,Tryz.ntmps74
    go_wp2_with fail
    go_ret
    exact ⟨by rw[HE.out];rfl,HB.out⟩
theorem nStar (S:ArenaMid AA) {w:World} {a:Value} {ns:List Nd} {F:Nat→Prop} (x:Int) (h:AA w a ns F) (hc:Canon ns) (hx:isIn ns x) (hroom:ns.length+4≤20000):Calls Tryz.prog 81 #[a,.int .i64 x] w (Grows AA w a ns F fun more r=>StarR (ns++more) x r∧more.length≤1):=by
  have hxI:I64 x:=by unfold isIn at hx;unfold I64;omega
  have HX:=Lib.hid hx
  have HC:=Lib.hid hc
  have HB:Hid (Below w.heap.size w (w.alloc (.cells #[.int .i64 x] 3))):=Lib.hid ((Below.refl _ _).alloc (Nat.le_refl _) _)
  have HA:=Lib.hid (S.next h HB.out)
  have HT:Hid (Calls Tryz.prog 72 #[a,.slice (some ⟨w.heap.size,0,none⟩) 1 1] (w.alloc (.cells #[.int .i64 x] 3)) fun e w'=>e=.returned (.bool true)∧w'=w.alloc (.cells #[.int .i64 x] 3)):=Lib.hid (nThere S [x] HA.out (list_one _ _ _) (by simp) (fun y hy=>by rw[List.mem_singleton.1 hy];exact hx))
  have HK:=Lib.hid (nKind S x HA.out hx)
  clear h hc hx
  go_enter Tryz.func81,Tryz.ntmps81
  go_wp2_with fail
  refine HT.out.mono ?_
  rintro e w1 ⟨rfl,rfl⟩
  go_wp2_with fail
  refine HK.out.mono ?_
  rintro e w1 ⟨rfl,hb1⟩
  have HB1:=Lib.hid (HB.out.trans (hb1.mono HB.out.size))
  have HA1:=Lib.hid (S.next HA.out hb1)
  clear hb1
  obtain ⟨k,hkd⟩:∃k,k=kd ns x:=⟨_,rfl⟩
  rw[←hkd]
  have HKd:=Lib.hid hkd
  clear hkd
  by_cases hk:k=0∨k=1
  · have HP:=Lib.hid (nEmpty S HA1.out HC.out hroom)
    have HK01:=Lib.hid hk
    have hg:∀{e:Ending} {w2:World},Grows AA w1 a ns F (fun more r=>kd (ns++more) r=1∧more.length≤1∧(isIn ns r→more=[])) e w2→Grows AA w a ns F (fun more r=>StarR (ns++more) x r∧more.length≤1) e w2:=fun g=>by
      obtain ⟨r',more,F',g0,g1,g2,g3,g4,g5,g6⟩:=g.from HB1.out
      refine ⟨r',more,F',g0,g1,g2,g3,g4,g5,⟨g5,fun _=>g6.1,fun q=>?_,fun q0 q1 _=>?_⟩,g6.2.1⟩
      · rw[kd_up HX.out,←HKd.out] at q;have:=HK01.out;omega
      · rw[kd_up HX.out,←HKd.out] at q0 q1;have:=HK01.out;omega
    have HGg:Hid (∀{e:Ending} {w2:World},Grows AA w1 a ns F (fun more r=>kd (ns++more) r=1∧more.length≤1∧(isIn ns r→more=[])) e w2→Grows AA w a ns F (fun more r=>StarR (ns++more) x r∧more.length≤1) e w2):=Lib.hid hg
    clear hg
    rcases hk with rfl | rfl
    · go_wp2_with fail
      refine HP.out.mono ?_
      rintro e w2 g
      obtain ⟨r,_,_,rfl,_⟩:=id g
      have HG:=Lib.hid (HGg.out g)
      clear g
      go_wp2_with fail
      go_ret
      exact HG.out
    · go_wp2_with fail
      refine HP.out.mono ?_
      rintro e w2 g
      obtain ⟨r,_,_,rfl,_⟩:=id g
      have HG:=Lib.hid (HGg.out g)
      clear g
      go_wp2_with fail
      go_ret
      exact HG.out
  · have hk0:k≠0:=fun q=>hk (Or.inl q)
    have hk1:k≠1:=fun q=>hk (Or.inr q)
    have hb0:=(int_ne hk0).1
    have hb1:=(int_ne hk1).1
    have HK0:Hid (kd ns x≠0):=Lib.hid (by rw[←HKd.out];exact hk0)
    have HK1:Hid (kd ns x≠1):=Lib.hid (by rw[←HKd.out];exact hk1)
    clear hk hk0 hk1
    by_cases hk7:k=7
    · have HK7:Hid (kd ns x=7):=Lib.hid (by rw[←HKd.out];exact hk7)
      subst hk7
      clear hb0 hb1
      go_wp2_with fail
      go_ret
      refine ⟨x,[],F,rfl,by rw[List.append_nil];exact HA1.out,fun b q=>Or.inl q,OffF.of HB1.out,by rw[List.append_nil];exact HC.out,by rw[List.append_nil];exact HX.out,?_,by simp⟩
      rw[List.append_nil]
      exact ⟨HX.out,fun q=>by have:=HK0.out;have:=HK1.out;omega,fun _=>rfl,fun _ _ q=>absurd HK7.out q⟩
    · have hb7:=(int_ne hk7).1
      have HK7:Hid (kd ns x≠7):=Lib.hid (by rw[←HKd.out];exact hk7)
      have HP:=Lib.hid (nPut S ⟨7,noSt,x,0,false⟩ HA1.out HC.out (fit_small _ _ _ _ (by unfold I64;omega) hxI (by unfold I64;omega)) (one_right' (Or.inr rfl) HX.out) (fits_star HK0.out HK1.out HK7.out) (by omega))
      clear hk7
      go_wp2_with fail
      refine HP.out.mono ?_
      rintro e w2 g
      obtain ⟨r,_,_,rfl,_⟩:=id g
      have HG:Hid (Grows AA w a ns F (fun more r=>StarR (ns++more) x r∧more.length≤1) (.returned (.int .i64 r)) w2):=Lib.hid (by
        obtain ⟨r',more,F',g0,g1,g2,g3,g4,g5,g6⟩:=g.from HB1.out
        refine ⟨r',more,F',g0,g1,g2,g3,g4,g5,⟨g5,fun q=>?_,fun q=>?_,fun _ _ _=>⟨?_,?_⟩⟩,g6.2.1⟩
        · rw[kd_up HX.out] at q;have:=HK0.out;have:=HK1.out;omega
        · rw[kd_up HX.out] at q;exact absurd q HK7.out
        · unfold kd;rw[g6.1]
        · unfold ka;rw[g6.1])
      clear g
      go_wp2_with fail
      go_ret
      exact HG.out
theorem list_none {s:St}:s.list.length=0↔∀b,b<256→s.has b=false:=by
  have:s.list.length=0↔∀b:Nat,b ∉ s.list:=by
    rw[List.length_eq_zero_iff]
    exact List.eq_nil_iff_forall_not_mem
  rw[this]
  constructor
  · intro h b hb
    cases e:s.has b with
    | false=>rfl
    | true=>exact absurd ((List.mem_filter.2 ⟨List.mem_range.2 hb,e⟩)) (h b)
  · intro h b hb
    obtain ⟨q1,q2⟩:=List.mem_filter.1 hb
    rw[h b (List.mem_range.1 q1)] at q2;cases q2
theorem nBytes (S:ArenaMid AA) {w:World} {a:Value} {ns:List Nd} {F:Nat→Prop} (s:St) (h:AA w a ns F) (hc:Canon ns) (hs:s.Ok) (hroom:ns.length+4≤20000):Calls Tryz.prog 54 #[a,.agg #[.int .u64 s.w0,.int .u64 s.w1,.int .u64 s.w2,.int .u64 s.w3]] w (Grows AA w a ns F fun more r=>((s.list.length=0∧kd (ns++more) r=0)∨(s.list.length≠0∧ndAt (ns++more) r.toNat=⟨2,s,0,0,false⟩))∧more.length≤1∧(isIn ns r→more=[])):=by
  have HB:Hid (Below w.heap.size w (w.alloc (.cells #[.int .u64 s.w0,.int .u64 s.w1,.int .u64 s.w2,.int .u64 s.w3] 24))):=Lib.hid ((Below.refl _ _).alloc (Nat.le_refl _) _)
  have HA:=Lib.hid (S.next h HB.out)
  have HC:=Lib.hid hc
  have HS:=Lib.hid hs
  have HCt:=Lib.hid (setCount s hs (w.alloc (.cells #[.int .u64 s.w0,.int .u64 s.w1,.int .u64 s.w2,.int .u64 s.w3] 24)))
  clear h hc hs
  go_enter Tryz.func54,Tryz.ntmps54
  go_wp2_with fail
  refine HCt.out.mono ?_
  rintro e w1 ⟨rfl,hb1⟩
  have HB1:=Lib.hid (HB.out.trans (hb1.mono HB.out.size))
  have HA1:=Lib.hid (S.next HA.out hb1)
  have hcell:=fun (i:Nat)=>((bcell hb1).1 w.heap.size i (by simp)).trans ((At.new w 24 #[.int .u64 s.w0,.int .u64 s.w1,.int .u64 s.w2,.int .u64 s.w3]).cell i)
  have c0:w1.cell? ⟨w.heap.size,0,none⟩=some (.int .u64 s.w0):=hcell 0
  have c1:w1.cell? ⟨w.heap.size,1,none⟩=some (.int .u64 s.w1):=hcell 1
  have c2:w1.cell? ⟨w.heap.size,2,none⟩=some (.int .u64 s.w2):=hcell 2
  have c3:w1.cell? ⟨w.heap.size,3,none⟩=some (.int .u64 s.w3):=hcell 3
  clear hb1 hcell
  obtain ⟨n,hn⟩:∃n,n=s.list.length:=⟨_,rfl⟩
  rw[←hn]
  have HN:=Lib.hid hn
  clear hn
  by_cases h0:n=0
  · have HP:=Lib.hid (nNone S HA1.out HC.out hroom)
    have HN0:=Lib.hid h0
    subst h0
    go_wp2_with fail
    refine HP.out.mono ?_
    rintro e w2 g
    obtain ⟨r,_,_,rfl,_⟩:=id g
    have HG:=Lib.hid ((g.from HB1.out).mono (R':=fun more r=>((s.list.length=0∧kd (ns++more) r=0)∨(s.list.length≠0∧ndAt (ns++more) r.toNat=⟨2,s,0,0,false⟩))∧more.length≤1∧(isIn ns r→more=[])) (fun more r q=>⟨Or.inl ⟨HN.out.symm,q.1⟩,q.2⟩))
    clear g
    go_wp2_with fail
    go_ret
    exact HG.out
  · have hne:¬((n:Int)=0):=by omega
    have hnb:=(int_ne hne).1
    have hnb':(((n:Nat):Int)==0)=false:=hnb
    have HNe:Hid (s.list.length≠0):=Lib.hid (by rw[←HN.out];exact h0)
    have hex:∃b,b<256∧s.has b=true:=Classical.byContradiction fun q=>HNe.out (list_none.2 (fun b hb=>by
      cases e:s.has b with
      | false=>rfl
      | true=>exact absurd ⟨b,hb,e⟩ q))
    have HP:=Lib.hid (nPut S ⟨2,s,0,0,false⟩ HA1.out HC.out ⟨by unfold I64;dsimp only;omega,HS.out,by unfold I64;dsimp only;omega,by unfold I64;dsimp only;omega⟩ (by unfold Nd.right;rw[if_neg (by simp),if_pos rfl];exact Nd.eqb_self _) (fits_bytes hex) (by omega))
    clear h0 hne hex
    go_wp2_with fail
    refine HP.out.mono ?_
    rintro e w2 g
    obtain ⟨r,_,_,rfl,_⟩:=id g
    have HG:=Lib.hid ((g.from HB1.out).mono (R':=fun more r=>((s.list.length=0∧kd (ns++more) r=0)∨(s.list.length≠0∧ndAt (ns++more) r.toNat=⟨2,s,0,0,false⟩))∧more.length≤1∧(isIn ns r→more=[])) (fun more r q=>⟨Or.inr ⟨HNe.out,q.1⟩,q.2⟩))
    clear g
    go_wp2_with fail
    go_ret
    exact HG.out
end
end Go.Proofs.YtgmpfnfomgadeaaGreat

/- Build: what the node of a pattern matches, kind by kind. Mathematics; no program is named. -/
set_option linter.unusedSectionVars false
set_option linter.unusedSimpArgs false
set_option linter.unusedVariables false
namespace Go.Proofs.YtgmpfnfomgadeaaGreat
open Go.RowKit
variable {D:List Nat→List Nat→Prop} {u:Value}
def TabR (D:List Nat→List Nat→Prop) (ns:List Nd) (r:Int) (f:List Nat→Tbl):Prop:=∀l bits:List Nat,(∀b∈l,b<256)→l.length≤8→D l bits→Eqv (l.length+1) (nodeT l bits ns r) (f l)
theorem TabR.up {ns:List Nd} {r:Int} {f:List Nat→Tbl} (h:TabR D ns r f) (hr:isIn ns r) (more:List Nd):TabR D (ns++more) r f:=fun l bits hb hl hd=>by
  rw[nodeT_up l bits more hr]
  exact h l bits hb hl hd
def AllR (D:List Nat→List Nat→Prop) (ns:List Nd) (k:Nat) (xs:List Int) (ps:List Tr):Prop:=xs.length=ps.length∧(∀x∈xs,isIn ns x)∧∀(i:Nat) (h1:i<xs.length) (h2:i<ps.length),TabR D ns xs[i] (fun l=>spansS l k ps[i])
theorem AllR.up {ns:List Nd} {k:Nat} {xs:List Int} {ps:List Tr} (h:AllR D ns k xs ps) (more:List Nd):AllR D (ns++more) k xs ps :=
  ⟨h.1,fun x hx=>(h.2.1 x hx).up more,fun i h1 h2=>(h.2.2 i h1 h2).up (h.2.1 _ (List.getElem_mem h1)) more⟩
theorem AllR.nil {ns:List Nd} {k:Nat}:AllR D ns k [] []:=⟨rfl,(by intro x hx;cases hx),fun i h1 _=>absurd h1 (Nat.not_lt_zero _)⟩
theorem AllR.snoc {ns:List Nd} {k:Nat} {xs:List Int} {ps:List Tr} {x:Int} {p:Tr} (h:AllR D ns k xs ps) (hx:isIn ns x) (ht:TabR D ns x (fun l=>spansS l k p)):AllR D ns k (xs++[x]) (ps++[p]):=by
  refine ⟨by rw[List.length_append,List.length_append,h.1];rfl,fun y hy=>?_,fun i h1 h2=>?_⟩
  · rcases List.mem_append.1 hy with hy | hy
    · exact h.2.1 y hy
    · rw[List.mem_singleton.1 hy];exact hx
  · rw[List.length_append,List.length_singleton] at h1
    by_cases e:i<xs.length
    · have e2:i<ps.length:=by rw[←h.1];exact e
      rw[List.getElem_append_left e,List.getElem_append_left e2]
      exact h.2.2 i e e2
    · have e1:i=xs.length:=by omega
      have e2:i=ps.length:=by rw[←h.1];exact e1
      rw[List.getElem_append_right (by omega),List.getElem_append_right (by omega)]
      simpa using ht
section
variable {ns:List Nd} (hc:Canon ns)
include hc
theorem tab_none {r:Int} (hr:isIn ns r) (k:kd ns r=0):TabR D ns r (fun _=>noF):=fun l bits _ _ _=>by rw[T_no hc.fine hr k];exact Eqv.refl _ _
theorem tab_empty {r:Int} (hr:isIn ns r) (k:kd ns r=1):TabR D ns r (fun _=>eqF):=fun l bits _ _ _=>by rw[T_em hc.fine hr k];exact Eqv.refl _ _
theorem tab_bytes {r:Int} {s:St} (hr:isIn ns r) (h:(s.list.length=0∧kd ns r=0)∨(s.list.length≠0∧ndAt ns r.toNat=⟨2,s,0,0,false⟩)):TabR D ns r (fun l=>byteF s l):=fun l bits hb _ _=>by
  rcases h with ⟨h0,k⟩ | ⟨_,k⟩
  · rw[T_no hc.fine hr k]
    intro i j hi hj
    refine Eq.symm ?_
    show byteF s l i j=false
    unfold byteF
    by_cases e:j=i+1∧i<l.length
    · rw[decide_eq_true e,Bool.true_and]
      have hlt:=e.2
      refine list_none.1 h0 _ ?_
      rw[List.getElem?_eq_getElem hlt]
      exact hb _ (List.getElem_mem hlt)
    · rw[decide_eq_false e,Bool.false_and]
  · have k2:kd ns r=2:=by unfold kd;rw[k]
    rw[T_bytes hc.fine hr k2,k]
    exact Eqv.refl _ _
theorem tab_cat {k:Nat} {xs:List Int} {ps:List Tr} {r:Int} (h:CatLR ns xs r) (ha:AllR D ns k xs ps):TabR D ns r (fun l=>(ps.map (spansS l k)).foldl (fun f g=>thenF f g (l.length+1)) eqF):=fun l bits hb hl hd=>by
  refine (h.table hc.fine ha.2.1).trans (Eqv.trans ?_ (foldl_cat _).symm)
  have e:∀ys:List Int,ys.foldr (fun x g=>thenF (nodeT l bits ns x) g (l.length+1)) eqF=(ys.map (nodeT l bits ns)).foldr (fun f g=>thenF f g (l.length+1)) eqF:=fun ys=>by rw[List.foldr_map]
  rw[e]
  refine foldr_congr (by rw[List.length_map,List.length_map];exact ha.1) (fun i h1 h2=>?_)
  rw[List.getElem_map,List.getElem_map]
  rw[List.length_map] at h1 h2
  exact ha.2.2 i h1 h2 l bits hb hl hd
omit hc in
theorem any_all_eq {k n:Nat} {xs:List Int} {ps:List Tr} {l bits:List Nat} (ha:AllR D ns k xs ps) (hb:∀b∈l,b<256) (hl:l.length≤8) (hd:D l bits) {i j:Nat} (hi:i<l.length+1) (hj:j<l.length+1):xs.any (fun x=>nodeT l bits ns x i j)=(ps.map (spansS l k)).any (fun f=>f i j)∧xs.all (fun x=>nodeT l bits ns x i j)=(ps.map (spansS l k)).all (fun f=>f i j):=by
  have e:xs.map (fun x=>nodeT l bits ns x i j)=(ps.map (spansS l k)).map (fun f=>f i j):=by
    apply List.ext_getElem
    · rw[List.length_map,List.length_map,List.length_map];exact ha.1
    · intro m h1 h2
      rw[List.getElem_map,List.getElem_map,List.getElem_map]
      rw[List.length_map] at h1
      exact ha.2.2 m h1 (by rw[←ha.1];exact h1) l bits hb hl hd i j hi hj
  have e1:=congrArg (fun m:List Bool=>m.any id) e
  have e2:=congrArg (fun m:List Bool=>m.all id) e
  simp only[List.any_map,List.all_map] at e1 e2
  exact ⟨by simpa [Function.comp_def] using e1,by simpa [Function.comp_def] using e2⟩
theorem tab_or {k:Nat} {xs:List Int} {ps:List Tr} {r:Int} (h:JoinR ns 4 xs r) (ha:AllR D ns k xs ps):TabR D ns r (fun l=>(ps.map (spansS l k)).foldl (fun f g i j=>f i j||g i j) noF):=fun l bits hb hl hd i j hi hj=>by
  show _=(ps.map (spansS l k)).foldl (fun f g i j=>f i j||g i j) noF i j
  rw[join4_table hc hb ha.2.1 h i j,foldl_or,(any_all_eq (n:=0) ha hb hl hd hi hj).1]
  rfl
theorem tab_and {k:Nat} {xs:List Int} {ps:List Tr} {r:Int} (h:JoinR ns 5 xs r) (ha:AllR D ns k xs ps):TabR D ns r (fun l=>(ps.map (spansS l k)).foldl (fun f g i j=>f i j&&g i j) (otherF noF)):=fun l bits hb hl hd i j hi hj=>by
  show _=(ps.map (spansS l k)).foldl (fun f g i j=>f i j&&g i j) (otherF noF) i j
  rw[join5_table hc hb ha.2.1 h i j,foldl_and,(any_all_eq (n:=0) ha hb hl hd hi hj).2]
  unfold otherF noF
  simp
theorem tab_not {x r:Int} {f:List Nat→Tbl} (hx:isIn ns x) (h:NotR ns x r) (hf:TabR D ns x f):TabR D ns r (fun l=>otherF (f l)):=fun l bits hb hl hd i j hi hj=>by
  rw[notR_table hc.fine hx h i j]
  unfold otherF
  rw[hf l bits hb hl hd i j hi hj]
theorem tab_led {x z r:Int} {lo:Nat} {f g:List Nat→Tbl} (hx:isIn ns x) (hz:isIn ns z) (h:CatLR ns (List.replicate lo x++[z]) r) (hf:TabR D ns x f) (hg:TabR D ns z g):TabR D ns r (fun l=>ledF (f l) (l.length+1) lo (g l)):=fun l bits hb hl hd=>by
  refine (h.table hc.fine (fun y hy=>?_)).trans ?_
  · rcases List.mem_append.1 hy with hy | hy
    · rw[List.eq_of_mem_replicate hy];exact hx
    · rw[List.mem_singleton.1 hy];exact hz
  · clear h
    induction lo with
    | zero =>
      show Eqv _ (thenF (nodeT l bits ns z) eqF (l.length+1)) (g l)
      refine ((eq_then_swap (l.length+1) _).symm.trans (eq_then (fun i j q=>slimT hc.fine _ z (Nat.le_refl _) hz i j q))).trans (hg l bits hb hl hd)
    | succ lo ih=>exact then_congr (hf l bits hb hl hd) ih
theorem tab_rep {x r:Int} {lo:Nat} {f:List Nat→Tbl} (hx:isIn ns x) (h:CatLR ns (List.replicate lo x) r) (hf:TabR D ns x f):TabR D ns r (fun l=>ledF (f l) (l.length+1) lo eqF):=fun l bits hb hl hd=>by
  refine (h.table hc.fine (fun y hy=>by rw[List.eq_of_mem_replicate hy];exact hx)).trans ?_
  clear h
  induction lo with
  | zero=>exact Eqv.refl _ _
  | succ lo ih=>exact then_congr (hf l bits hb hl hd) ih
theorem tab_star {x r:Int} {f:List Nat→Tbl} (hx:isIn ns x) (h:StarR ns x r) (hf:TabR D ns x f):TabR D ns r (fun l=>anyTo (f l) (l.length+1) (l.length+1)):=fun l bits hb hl hd =>
  (starR_table hc.fine hx h).trans (any_congr (hf l bits hb hl hd) _)
theorem tab_may {x e c r:Int} {m:Nat} {f:List Nat→Tbl} {id:Int} (hx:isIn ns x) (hid:isIn ns id) (he:isIn ns e) (ke:kd ns e=1) (hcat:CatR ns x id c) (h:JoinR ns 4 [e,c] r) (hf:TabR D ns x f) (hm:TabR D ns id (fun l=>mayF (f l) (l.length+1) m)):TabR D ns r (fun l=>mayF (f l) (l.length+1) (m+1)):=fun l bits hb hl hd i j hi hj=>by
  rw[join4_table hc hb (fun y hy=>by simp at hy;rcases hy with rfl | rfl;exact he;exact hcat.1) h i j]
  rw[List.any_cons,List.any_cons,List.any_nil,Bool.or_false,T_em hc.fine he ke]
  show _=(eqF i j||thenF (f l) (mayF (f l) (l.length+1) m) (l.length+1) i j)
  rw[catR_table hc.fine hx hid hcat i j hi hj,then_congr (hf l bits hb hl hd) (hm l bits hb hl hd) i j hi hj]
end
end Go.Proofs.YtgmpfnfomgadeaaGreat

/- Build: how wide what it puts together is. Mathematics; no program is named. -/
set_option linter.unusedSectionVars false
set_option linter.unusedSimpArgs false
set_option linter.unusedVariables false
namespace Go.Proofs.YtgmpfnfomgadeaaGreat
open Go.RowKit
variable {D:List Nat→List Nat→Prop} {u:Value}
def CatW (ns:List Nd) (l:List Int) (r:Int):Prop:=CatLR ns l r∧(r∈l∨kd ns r=3∨kd ns r=0∨kd ns r=1)
theorem CatW.one {ns:List Nd} {x:Int} (hx:isIn ns x):CatW ns [x] x:=⟨CatLR.one hx,Or.inl (by simp)⟩
theorem CatW.empty {ns:List Nd} {r:Int} (hr:isIn ns r) (k:kd ns r=1):CatW ns [] r:=⟨⟨hr,by rw[cat_empty k];rfl⟩,Or.inr (Or.inr (Or.inr k))⟩
theorem CatW.cons {ns:List Nd} (hc:Canon ns) {x q r:Int} {l:List Int} (hx:isIn ns x) (h:CatR ns x q r) (h':CatW ns l q):CatW ns (x::l) r:=by
  refine ⟨h'.1.cons h,?_⟩
  rcases cat_which hc hx h'.1.1 h with rfl | rfl | k | k | k
  · exact Or.inl (by simp)
  · rcases h'.2 with z | z
    · exact Or.inl (List.mem_cons_of_mem _ z)
    · exact Or.inr z
  · exact Or.inr (Or.inl k)
  · exact Or.inr (Or.inr (Or.inl k))
  · exact Or.inr (Or.inr (Or.inr k))
theorem CatW.up {ns:List Nd} (hf:FineN ns) (more:List Nd) {l:List Int} {r:Int} (hl:∀x∈l,isIn ns x) (h:CatW ns l r):CatW (ns++more) l r :=
  ⟨h.1.up hf more hl,by rw[kd_up h.1.1];exact h.2⟩
theorem catLV_len {ns:List Nd}:∀l:List Int,((catLV ns l).getD []).length≤(l.map (catN ns)).sum
  | []=>Nat.le_refl _
  | x::l=>by
    have h:=catLV_len (ns:=ns) l
    show ((catJ (catV ns x) (catLV ns l)).getD []).length≤((x::l).map (catN ns)).sum
    rw[List.map_cons,List.sum_cons]
    unfold catN at h ⊢
    cases hx:catV ns x with
    | none=>simp[catJ]
    | some u =>
      cases hl:catLV ns l with
      | none=>simp[catJ]
      | some v =>
        rw[hl] at h
        simp[catJ] at h ⊢
        exact h
theorem wide_catL {ns:List Nd} {l:List Int} {r:Int} {n:Nat} (h:CatW ns l r) (hw:∀x∈l,Wide ns n x) (hs:(l.map (catN ns)).sum≤n) (hn:1≤n):Wide ns n r:=by
  rcases h.2 with z | z | z | z
  · exact hw r z
  · refine ⟨⟨?_,by rw[mem_leaf (by omega)];exact hn,by rw[mem_leaf (by omega)];exact hn⟩,fun e=>by omega⟩
    have:=catLV_len (ns:=ns) l
    unfold catN
    rw[h.1.2]
    omega
  · exact wide_small (by omega) (by omega) (by omega) (by omega) hn
  · exact wide_small (by omega) (by omega) (by omega) (by omega) hn
section
variable {ns:List Nd} (hc:Canon ns)
include hc
theorem join_not3 {e c r:Int} (he:isIn ns e) (ke:kd ns e=1) (h:JoinR ns 4 [e,c] r):kd ns r≠3:=fun k3=>by
  have ht:topB ns 4 r=false:=by
    cases q:topB ns 4 r with
    | false=>rfl
    | true=>have:=topB_kind q;omega
  have hu:unitB ns 4 r=false:=by
    cases q:unitB ns 4 r with
    | false=>rfl
    | true=>have:=unitB_kind q;omega
  have hte:topB ns 4 e=false:=by
    cases q:topB ns 4 e with
    | false=>rfl
    | true=>have:=topB_kind q;omega
  have hue:unitB ns 4 e=false:=by
    cases q:unitB ns 4 e with
    | false=>rfl
    | true=>have:=unitB_kind q;omega
  have hv:view ns 4 e (.oth e)=true:=(view_oth hc (Or.inl rfl) he hte hue (by omega)).2 (by rw[mem_leaf (by omega)];simp)
  have hr:view ns 4 r (.oth e)=true:=by
    rw[h.2]
    by_cases q:Shuts 4 (fun a=>[e,c].any (fun x=>view ns 4 x a))
    · exact clos_yes q _
    · rw[clos_no q];simp[hv]
  have hm:=(view_oth hc (Or.inl rfl) h.1 ht hu (by omega)).1 hr
  rw[mem_leaf (by omega)] at hm
  rw[List.mem_singleton.1 hm] at ke
  omega
omit hc in
theorem join_sub {e c r:Int} (h:JoinR ns 4 [e,c] r) (a:Atom) (ha:view ns 4 e a=true):view ns 4 r a=true:=by
  rw[h.2]
  by_cases q:Shuts 4 (fun a=>[e,c].any (fun x=>view ns 4 x a))
  · exact clos_yes q _
  · rw[clos_no q];simp[ha]
omit hc in
theorem join_drop {e c r:Int} (h:JoinR ns 4 [e,c] r) (hs:∀a,view ns 4 e a=true→view ns 4 c a=true):JoinR ns 4 [c] r :=
  ⟨h.1,fun a=>by
    rw[h.2]
    exact clos_congr (fun a=>by
      have:=hs a
      simp only[List.any_cons,List.any_nil,Bool.or_false]
      cases q:view ns 4 e a
      · rfl
      · rw[this q];rfl) a⟩
end
structure UpI (D:List Nat→List Nat→Prop) (ns:List Nd) (e:Int) (n:Nat) (f:List Nat→Tbl) (m:Nat) (id:Int):Prop where
  inn:isIn ns id
  wide:Wide ns (n+1) id
  no3:kd ns id≠3
  sub:∀a,view ns 4 e a=true→view ns 4 id a=true
  tab:TabR D ns id (fun l=>mayF (f l) (l.length+1) m)
theorem UpI.start {ns:List Nd} (hc:Canon ns) {e:Int} {n:Nat} {f:List Nat→Tbl} (he:isIn ns e) (ke:kd ns e=1):UpI D ns e n f 0 e :=
  ⟨he,wide_small (by omega) (by omega) (by omega) (by omega) (by omega),by omega,fun a h=>h,tab_empty hc he ke⟩
theorem UpI.up {ns:List Nd} (hc:Canon ns) (more:List Nd) {e id:Int} {n m:Nat} {f:List Nat→Tbl} (he:isIn ns e) (h:UpI D ns e n f m id):UpI D (ns++more) e n f m id :=
  ⟨h.inn.up more,h.wide.up hc.fine more h.inn,by rw[kd_up h.inn];exact h.no3,fun a q=>by
    rw[view_up hc.fine more (Or.inl rfl) he] at q
    rw[view_up hc.fine more (Or.inl rfl) h.inn]
    exact h.sub a q,h.tab.up h.inn more⟩
theorem up_cat {ns:List Nd} (hc:Canon ns) {e x id c:Int} {n m:Nat} {f:List Nat→Tbl} (hx:isIn ns x) (wx:Wide ns n x) (hn:1≤n) (h:UpI D ns e n f m id) (hcat:CatR ns x id c):Wide ns (n+1) c∧(c=id∨(mem ns 4 c).length≤n):=by
  rcases cat_which hc hx h.inn hcat with rfl | rfl | k | k | k
  · exact ⟨wx.mono (by omega),Or.inr wx.1.2.1⟩
  · exact ⟨h.wide,Or.inl rfl⟩
  · refine ⟨⟨⟨?_,by rw[mem_leaf (by omega)];exact Nat.le_add_left 1 n,by rw[mem_leaf (by omega)];exact Nat.le_add_left 1 n⟩,fun q=>by omega⟩,Or.inr (by rw[mem_leaf (by omega)];exact hn)⟩
    have h1:=catN_le hcat
    have h2:=wx.1.1
    have h3:=catN_small h.no3
    omega
  · exact ⟨wide_small (by omega) (by omega) (by omega) (by omega) (by omega),Or.inr (by rw[mem_leaf (by omega)];exact hn)⟩
  · exact ⟨wide_small (by omega) (by omega) (by omega) (by omega) (by omega),Or.inr (by rw[mem_leaf (by omega)];exact hn)⟩
theorem up_mem {ns:List Nd} {e c:Int} {n:Nat} (ke:kd ns e=1) (h:Wide ns (n+1) c):memN ns 4 [e,c]≤n+2:=by
  have:=h.1.2.1
  unfold memN
  rw[List.map_cons,List.map_cons,List.map_nil,List.sum_cons,List.sum_cons,List.sum_nil,mem_leaf (by omega)]
  simp
  omega
theorem UpI.step {ns:List Nd} (hc:Canon ns) {e x id c r:Int} {n m:Nat} {f:List Nat→Tbl} (he:isIn ns e) (ke:kd ns e=1) (hx:isIn ns x) (wx:Wide ns n x) (hf:TabR D ns x f) (hn:1≤n) (h:UpI D ns e n f m id) (hcat:CatR ns x id c) (hj:JoinR ns 4 [e,c] r):UpI D ns e n f (m+1) r:=by
  obtain ⟨wc,hm⟩:=up_cat hc hx wx hn h hcat
  have hl:∀y∈[e,c],isIn ns y:=fun y hy=>by simp at hy;rcases hy with rfl | rfl;exact he;exact hcat.1
  have we:Wide ns (n+1) e:=wide_small (by omega) (by omega) (by omega) (by omega) (by omega)
  refine ⟨hj.1,?_,join_not3 hc he ke hj,join_sub hj,tab_may hc hx h.inn he ke hcat hj hf h.tab⟩
  rcases hm with rfl | hm
  · refine wide_join hc (Or.inl rfl) (fun y hy=>by rw[List.mem_singleton.1 hy];exact h.inn) (join_drop hj h.sub) (fun y hy=>by rw[List.mem_singleton.1 hy];exact h.wide) ?_ (by omega)
    have:=h.wide.1.2.1
    unfold memN
    simpa using this
  · refine wide_join hc (Or.inl rfl) hl hj (fun y hy=>by simp at hy;rcases hy with rfl | rfl;exact we;exact wc) ?_ (by omega)
    unfold memN
    rw[List.map_cons,List.map_cons,List.map_nil,List.sum_cons,List.sum_cons,List.sum_nil,mem_leaf (by omega)]
    simp
    omega
end Go.Proofs.YtgmpfnfomgadeaaGreat
