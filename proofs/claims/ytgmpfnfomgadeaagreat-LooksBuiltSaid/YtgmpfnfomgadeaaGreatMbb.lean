/- Joined: BlUp, BlN. -/
import Derived.Test.YtgmpfnfomgadeaaGreatMaz
import Derived.Test.YtgmpfnfomgadeaaGreatNormOr
import Derived.Deep.QuietTactic
import Derived.Deep.RegionHeld3
import Derived.Test.YtgmpfnfomgadeaaGreatMab
import Derived.Test.YtgmpfnfomgadeaaGreatMar
/- norm's builder: upTo. -/
set_option linter.unusedSectionVars false
set_option linter.unusedSimpArgs false
set_option linter.unusedVariables false
set_option maxHeartbeats 16000000
set_option maxRecDepth 100000
namespace Go.Proofs.YtgmpfnfomgadeaaGreat
open Go.RowKit Go.Shelf
variable {D:List Nat→List Nat→Prop} {u:Value}
section
variable {AA:World→Value→List Nd→(Nat→Prop)→Prop}
structure UJ (D:List Nat→List Nat→Prop) (AA:World→Value→List Nd→(Nat→Prop)→Prop) (w:World) (a:Value) (ns:List Nd) (F:Nat→Prop) (e:Int) (n:Nat) (f:List Nat→Tbl) (i:Nat) (W:World) (more:List Nd) (F':Nat→Prop) (r:Int):Prop where
  ab:AA W a (ns++more) F'
  low:∀b,F' b→F b∨w.heap.size≤b
  off:OffF F w W
  canon:Canon (ns++more)
  inn:isIn (ns++more) e
  kde:kd (ns++more) e=1
  few:more.length≤1+i*(2*n+5)
  up:UpI D (ns++more) e n f i r
theorem bUpTo (S:ArenaMap AA) {w:World} {a:Value} {ns:List Nd} {F:Nat→Prop} {f:List Nat→Tbl} (g n m:Nat) (x:Int) (h:AA w a ns F) (hc:Canon ns) (hb:BAt w g a u) (hgF:¬F g) (hx:isIn ns x) (wx:Wide ns n x) (hf:TabR D ns x f) (hn:1≤n) (hm:m≤1000) (hroom:ns.length+m*(2*n+5)+2*n+12≤20000) :
    Calls Tryz.prog 82 #[.pointer (some ⟨g,0,none⟩),.int .i64 x,.int .i64 m] w (Grows AA w a ns F fun more r=>(∃e,UpI D (ns++more) e n f m r)∧more.length≤1+m*(2*n+5)):=by
  have HE:=Lib.hid (nEmpty S.toArenaMid h hc (by omega))
  have HBa:=Lib.hid hb
  have HgF:=Lib.hid hgF
  have HX:=Lib.hid hx
  have HWx:=Lib.hid wx
  have HTf:=Lib.hid hf
  have HC:=Lib.hid hc
  have HRoom:=Lib.hid hroom
  have HNn:=Lib.hid hn
  have HMm:=Lib.hid hm
  have HLw:=Lib.hid (At.lt hb)
  have cb:w.cell? ⟨g,0,none⟩=some a:=hb.cell 0
  obtain ⟨gp,rfl⟩:=S.ptr h
  have hxI:I64 x:=by have:=S.max h;unfold isIn at hx;unfold I64;omega
  clear h hc hb hgF hx wx hf hn hroom
  go_enter Tryz.func82,Tryz.ntmps82
  go_wp2_with fail
  refine HE.out.mono ?_
  rintro e w1 ⟨r0,m0,F1,rfl,g1,g2,g3,g4,g5,g6⟩
  have HJ0:Hid (UJ D AA w (.pointer (some ⟨gp,0,none⟩)) ns F r0 n f 0 w1 m0 F1 r0):=Lib.hid ⟨g1,g2,g3,g4,g5,g6.1,by have:=g6.2.1;omega,UpI.start g4 g5 g6.1⟩
  clear g1 g2 g3 g4 g5 g6 cb
  go_wp2_with fail
  go_loopw [8,16] (fun x0 i wr=>∃(j:Nat) (more:List Nd) (F':Nat→Prop) (r:Int),j≤m∧i=.int .i64 j∧x0=.int .i64 r∧Hid (UJ D AA w (.pointer (some ⟨gp,0,none⟩)) ns F r0 n f j wr more F' r)) (fun _ i _=>m-(intOf i).toNat)
  case atStart=>exact ⟨0,m0,F1,r0,Nat.zero_le _,rfl,rfl,HJ0⟩
  case round =>
    obtain ⟨j,more,F',r,hj,rfl,rfl,HJ⟩:=hrel
    have hBW:BAt wr g (.pointer (some ⟨gp,0,none⟩)) u:=HBa.out.off HgF.out HJ.out.off
    have cb:wr.cell? ⟨g,0,none⟩=some (.pointer (some ⟨gp,0,none⟩)):=hBW.cell 0
    by_cases hjm:j<m
    · have hj0:(0:Int)≤(j:Int):=by omega
      have hj1:(j:Int)<(m:Int):=by omega
      have HJm:Hid (ns.length+more.length+2*n+2*n+16≤20000+2*n∧more.length+(2*n+5)≤1+(j+1)*(2*n+5)):=Lib.hid (by
        have h1:(j+1)*(2*n+5)≤m*(2*n+5):=Nat.mul_le_mul_right _ (by omega)
        have h2:(j+1)*(2*n+5)=j*(2*n+5)+(2*n+5):=by rw[Nat.add_mul,Nat.one_mul]
        have h3:=HRoom.out
        have h4:=HJ.out.few
        omega)
      have HCt:Hid (∀W',Below wr.heap.size wr W'→Calls Tryz.prog 71 #[.pointer (some ⟨gp,0,none⟩),.int .i64 x,.int .i64 r] W' (Grows AA wr (.pointer (some ⟨gp,0,none⟩)) (ns++more) F' (CatG (ns++more) x r))):=Lib.hid (fun W' hb=>by
        have h3:=HJm.out
        have h5:=HWx.out.1.1
        exact (nCat S.toArenaMid x r (S.next HJ.out.ab hb) HJ.out.canon (HX.out.up more) HJ.out.up.inn (by rw[catN_up HC.out.fine more HX.out,List.length_append];omega)).mono (fun _ _ g=>g.from hb))
      have HgB:Hid (g<wr.heap.size∧¬F' g):=Lib.hid ⟨At.lt hBW,fun z=>by
        rcases HJ.out.low _ z with z | z
        · exact HgF.out z
        · have:=HLw.out;omega⟩
      have HBw:=Lib.hid hBW
      clear hBW
      go_wp2_with fail
      refine wp_region_noPanic ?_
      refine wp_region_held_drew (S:=(fun w'=>w'.cell? ⟨g,0,none⟩=some (.pointer (some ⟨gp,0,none⟩)))) (by kernel_rfl) (by exact cb) (fun hHeld=>?_)
      refine wpAnyH_take (i:=0) (oi:=⟨some 18,_,_,_,_,_⟩) (v:=?_) rfl (by kernel_rfl) (by kernel_rfl) (by kernel_rfl) (fun _ _ _ h=>h) (Or.inl ⟨by rfl,?_⟩) (by exact hHeld) ?_
      rotate_left
      · (intro w hSw;(try dsimp only at hSw);go_simp;try (with_reducible rfl))
      simp only[Act.put,List.setIfInBounds_toArray,List.set_cons_zero,List.set_cons_succ]
      refine wpAnyH_take (i:=1) (oi:=⟨some 19,_,_,_,_,_⟩) (v:=?_) rfl (by kernel_rfl) (by kernel_rfl) (by kernel_rfl) (fun _ _ _ h=>h) (Or.inl ⟨by rfl,?_⟩) (by exact hHeld) ?_
      rotate_left
      · (intro w hSw;(try dsimp only at hSw);go_simp;try (with_reducible rfl))
      simp only[Act.put,List.setIfInBounds_toArray,List.set_cons_zero,List.set_cons_succ]
      refine wpAnyH_take (i:=2) (oi:=⟨some 20,_,_,_,_,_⟩) (v:=?_) rfl (by kernel_rfl) (by kernel_rfl) (by kernel_rfl) (fun _ _ _ h=>h) (Or.inl ⟨by rfl,?_⟩) (by exact hHeld) ?_
      rotate_left
      · (intro w hSw;(try dsimp only at hSw);go_simp;try (with_reducible rfl))
      simp only[Act.put,List.setIfInBounds_toArray,List.set_cons_zero,List.set_cons_succ]
      refine wpAnyH_take (i:=3) (oi:=⟨some 21,_,_,_,_,_⟩) (v:=?_) rfl (by kernel_rfl) (by kernel_rfl) (by kernel_rfl) (fun _ _ _ h=>h) (Or.inl ⟨by rfl,?_⟩) (by exact hHeld) ?_
      rotate_left
      · (intro w hSw;(try dsimp only at hSw);go_simp;try (with_reducible rfl))
      simp only[Act.put,List.setIfInBounds_toArray,List.set_cons_zero,List.set_cons_succ]
      refine wpAnyH_take (i:=4) (oi:=⟨some 22,_,_,_,_,_⟩) (v:=?_) rfl (by kernel_rfl) (by kernel_rfl) (by kernel_rfl) (fun _ _ _ h=>h) (Or.inl ⟨by rfl,?_⟩) (by exact hHeld) ?_
      rotate_left
      · (intro w hSw;(try dsimp only at hSw);go_simp;try (with_reducible rfl))
      simp only[Act.put,List.setIfInBounds_toArray,List.set_cons_zero,List.set_cons_succ]
      refine wpAnyH_take (i:=5) (oi:=⟨some 23,_,_,_,_,_⟩) (v:=?_) rfl (by kernel_rfl) (by kernel_rfl) (by kernel_rfl) (fun _ _ _ h=>h) (Or.inl ⟨by rfl,?_⟩) (by exact hHeld) ?_
      rotate_left
      · (intro w hSw;(try dsimp only at hSw);go_simp;try (with_reducible rfl))
      simp only[Act.put,List.setIfInBounds_toArray,List.set_cons_zero,List.set_cons_succ]
      refine wpAnyH_take (i:=6) (oi:=⟨some 24,_,_,_,_,_⟩) (v:=?_) rfl (by kernel_rfl) (by kernel_rfl) (by kernel_rfl) (fun _ _ _ h=>h) (Or.inl ⟨by rfl,?_⟩) (by exact hHeld) ?_
      rotate_left
      · (intro w hSw;(try dsimp only at hSw);go_simp;try (with_reducible rfl))
      simp only[Act.put,List.setIfInBounds_toArray,List.set_cons_zero,List.set_cons_succ]
      refine wpAnyH_take (i:=7) (oi:=⟨some 25,_,_,_,_,_⟩) (v:=?_) rfl (by kernel_rfl) (by kernel_rfl) (by kernel_rfl) (fun _ _ _ h=>h) (Or.inl ⟨by rfl,?_⟩) (by exact hHeld) ?_
      rotate_left
      · (intro w hSw;(try dsimp only at hSw);go_simp;try (with_reducible rfl))
      simp only[Act.put,List.setIfInBounds_toArray,List.set_cons_zero,List.set_cons_succ]
      refine wpAnyH_take (i:=8) (oi:=⟨some 26,_,_,_,_,_⟩) (v:=?_) rfl (by kernel_rfl) (by kernel_rfl) (by kernel_rfl) (fun _ _ _ h=>h) (Or.inl ⟨by rfl,?_⟩) (by exact hHeld) ?_
      rotate_left
      · (intro w hSw;(try dsimp only at hSw);go_simp;try (with_reducible rfl))
      simp only[Act.put,List.setIfInBounds_toArray,List.set_cons_zero,List.set_cons_succ]
      refine wpAnyH_take (i:=9) (oi:=⟨some 27,_,_,_,_,_⟩) (v:=?_) rfl (by kernel_rfl) (by kernel_rfl) (by kernel_rfl) (fun _ _ _ h=>h) (Or.inl ⟨by rfl,?_⟩) (by exact hHeld) ?_
      rotate_left
      · (intro w hSw;(try dsimp only at hSw);go_simp;try (with_reducible rfl))
      simp only[Act.put,List.setIfInBounds_toArray,List.set_cons_zero,List.set_cons_succ]
      refine wpAnyH_take (i:=10) (oi:=⟨some 28,_,_,_,_,_⟩) (v:=?_) rfl (by kernel_rfl) (by kernel_rfl) (by kernel_rfl) (fun _ _ _ h=>h) (Or.inl ⟨by rfl,?_⟩) (by exact hHeld) ?_
      rotate_left
      · (intro w hSw;(try dsimp only at hSw);go_simp;try (with_reducible rfl))
      simp only[Act.put,List.setIfInBounds_toArray,List.set_cons_zero,List.set_cons_succ]
      refine wpAnyH_ready (rs:=[11]) (by kernel_rfl) (by simp) ?_
      refine AllReadyH.cons (o:=⟨some 29,_,_,_,_,_⟩) rfl (fun K hK=>?_) AllReadyH.nil
      go_simp
      ((with_reducible refine (HCt.out _ (Below.refl _ _).drew).mono ?_))
      rintro e W6 ⟨c,more2,F2,rfl,k1,k2,k3,k4,k5,k6⟩
      have hB6:BAt W6 g (.pointer (some ⟨gp,0,none⟩)) u:=(show BAt wr g (.pointer (some ⟨gp,0,none⟩)) u from HBw.out).off HgB.out.2 k3
      have cb:W6.cell? ⟨g,0,none⟩=some (.pointer (some ⟨gp,0,none⟩)):=hB6.cell 0
      have hr0:=HJ.out.inn.up more2
      have hxm:=(HX.out.up more).up more2
      have hup:=HJ.out.up.up HJ.out.canon more2 HJ.out.inn
      have hwx:=(HWx.out.up HC.out.fine more HX.out).up HJ.out.canon.fine more2 (HX.out.up more)
      have hkd:kd ((ns++more)++more2) r0=1:=by rw[kd_up HJ.out.inn];exact HJ.out.kde
      have hwc:=(up_cat k4 hxm hwx HNn.out hup k6.1).1
      have hmem:=up_mem hkd hwc
      have hm2:more2.length≤n:=by have:=k6.2.1;rw[catN_up HC.out.fine more HX.out] at this;exact Nat.le_trans this HWx.out.1.1
      have hbA:Below W6.heap.size W6 (W6.alloc (.cells #[.int .i64 r0,.int .i64 c] 3)):=(Below.refl _ _).alloc (Nat.le_refl _) _
      have HOr:=(nOr S [r0,c] (S.next k1 hbA) k4 (list_two W6 r0 c 3) (fun y hy=>by simp at hy;rcases hy with rfl | rfl;exact hr0;exact k5) (by have:=HJm.out.1;rw[List.length_append,List.length_append];omega)).mono (fun _ _ g=>g.from hbA)
      have HOr:=Lib.hid HOr
      have Hk1:=Lib.hid k1
      have Hk2:=Lib.hid k2
      have Hk3:=Lib.hid k3
      have Hk4:=Lib.hid k4
      have Hk6:=Lib.hid k6
      have Hup:=Lib.hid hup
      have Hwx:=Lib.hid hwx
      have Hkd:=Lib.hid hkd
      have Hxm:=Lib.hid hxm
      have Hr0:=Lib.hid hr0
      have Hmm:=Lib.hid (And.intro hmem hm2)
      clear k1 k2 k3 k4 k5 k6 hup hwx hkd hxm hr0 hmem hm2 hwc hbA
      dsimp only
      refine hK.out _ _ ?_ (fun hHeld=>?_)
      · exact cb
      clear hK K
      try simp only[Act.put,List.setIfInBounds_toArray,List.set_cons_zero,List.set_cons_succ]
      refine wpAnyH_ready (rs:=[12]) (by kernel_rfl) (by simp) ?_
      refine AllReadyH.cons (o:=⟨some 30,_,_,_,_,_⟩) rfl (fun K hK=>?_) AllReadyH.nil
      go_simp
      have cb:(W6.alloc (.cells #[.int .i64 r0,.int .i64 c] 3)).cell? ⟨g,0,none⟩=some (.pointer (some ⟨gp,0,none⟩)):=(At.alloc hB6 _).cell 0
      refine hK.out _ _ ?_ (fun hHeld=>?_)
      · exact cb
      clear hK K
      try simp only[Act.put,List.setIfInBounds_toArray,List.set_cons_zero,List.set_cons_succ]
      refine wpAnyH_ready (rs:=[13]) (by kernel_rfl) (by simp) ?_
      refine AllReadyH.cons (o:=⟨some 31,_,_,_,_,_⟩) rfl (fun K hK=>?_) AllReadyH.nil
      go_simp
      ((with_reducible refine HOr.out.mono ?_))
      rintro e W7 ⟨r2,more3,F3,rfl,l1,l2,l3,l4,l5,l6⟩
      have hlow1:∀b,F2 b→F b∨w.heap.size≤b:=fun b z=>by
        rcases Hk2.out b z with z | z
        · exact HJ.out.low b z
        · exact Or.inr (Nat.le_trans HJ.out.off.size z)
      have ho1:OffF F w W6:=HJ.out.off.off Hk3.out HJ.out.low
      have HU:Hid (UJ D AA w (.pointer (some ⟨gp,0,none⟩)) ns F r0 n f (j+1) W7 (more++(more2++more3)) F3 r2):=Lib.hid (by
        have ea:ns++(more++(more2++more3))=((ns++more)++more2)++more3:=by simp[List.append_assoc]
        have hup3:=Hup.out.up Hk4.out more3 Hr0.out
        have hkd3:kd (((ns++more)++more2)++more3) r0=1:=by rw[kd_up Hr0.out];exact Hkd.out
        have htab:TabR D (((ns++more)++more2)++more3) x f:=((HTf.out.up HX.out more).up (HX.out.up more) more2).up Hxm.out more3
        refine ⟨by rw[ea];exact l1,fun b z=>?_,ho1.off l3 hlow1,by rw[ea];exact l4,by rw[ea];exact Hr0.out.up more3,by rw[ea];exact hkd3,?_,by rw[ea];exact UpI.step l4 (Hr0.out.up more3) hkd3 (Hxm.out.up more3) (Hwx.out.up Hk4.out.fine more3 Hxm.out) htab HNn.out hup3 (Hk6.out.1.up Hk4.out.fine more3 Hxm.out Hup.out.inn) l6.1⟩
        · rcases l2 b z with z | z
          · exact hlow1 b z
          · exact Or.inr (Nat.le_trans ho1.size z)
        · have h1:=HJm.out.2
          have h2:=l6.2.1
          have h3:=Hmm.out
          rw[List.length_append,List.length_append]
          omega)
      have hB7:BAt W7 g (.pointer (some ⟨gp,0,none⟩)) u:=HBa.out.off HgF.out (show OffF F w W7 from HU.out.off)
      have cb:W7.cell? ⟨g,0,none⟩=some (.pointer (some ⟨gp,0,none⟩)):=hB7.cell 0
      clear l1 l2 l3 l4 l5 l6 hlow1 ho1 hB7
      dsimp only
      refine hK.out _ _ ?_ (fun hHeld=>?_)
      · exact cb
      clear hK K
      try simp only[Act.put,List.setIfInBounds_toArray,List.set_cons_zero,List.set_cons_succ]
      refine wpAnyH_take (i:=14) (oi:=⟨some 8,_,_,_,_,_⟩) (v:=?_) rfl (by kernel_rfl) (by kernel_rfl) (by kernel_rfl) (fun _ _ _ h=>h) (Or.inl ⟨by rfl,?_⟩) (by exact hHeld) ?_
      rotate_left
      · (intro w hSw;(try dsimp only at hSw);go_simp;try (with_reducible rfl))
      simp only[Act.put,List.setIfInBounds_toArray,List.set_cons_zero,List.set_cons_succ]
      refine wpAnyH_done (by kernel_rfl) ?_ _
      refine NoPanic.normal ?_
      go_wp2_with fail
      exact ⟨⟨j+1,_,F3,r2,by omega,by go_num,rfl,HU⟩,by simp[intOf]<;>omega⟩
    · obtain rfl:j=m:=by omega
      go_wp2_with fail
      go_ret
      exact ⟨r,more,F',rfl,HJ.out.ab,HJ.out.low,HJ.out.off,HJ.out.canon,HJ.out.up.inn,⟨r0,HJ.out.up⟩,HJ.out.few⟩
end
end Go.Proofs.YtgmpfnfomgadeaaGreat

/- norm's builder: nodes, by what node does; what is said of node. -/
set_option linter.unusedSectionVars false
set_option linter.unusedSimpArgs false
set_option linter.unusedVariables false
set_option maxHeartbeats 16000000
set_option maxRecDepth 100000
namespace Go.Proofs.YtgmpfnfomgadeaaGreat
open Go.RowKit Go.Shelf
variable {D:List Nat→List Nat→Prop} {u:Value}
def cst (S k:Nat):Nat:=12*S+2*(S*k)
theorem cst_add (a b k:Nat):cst (a+b) k=cst a k+cst b k:=by unfold cst;rw[Nat.add_mul];omega
theorem cst_mono {a b k:Nat} (h:a≤b):cst a k≤cst b k:=by
  obtain ⟨c,rfl⟩:=Nat.exists_eq_add_of_le h
  rw[cst_add];omega
theorem cst_succ (S k:Nat):cst S (k+1)=cst S k+2*S:=by unfold cst;rw[Nat.mul_succ];omega
def sz (k:Nat) (t:Tr):Nat:=(sizeS k t).toNat
def Safe (F:Nat→Prop) (w:World) (k:Nat) (t:Tr):Prop:=∀w',OffF F w w'→Tr.In w' k t
def SafeP (F:Nat→Prop) (w:World) (k:Nat) (A:Option Addr) (ps:List Tr):Prop:=∀w',OffF F w w'→(0<ps.length→∃b off,A=some ⟨b,off,none⟩∧b<w'.heap.size∧∀j (h:j<ps.length),w'.rangeAt b (off+j*9) ps[j].cs)∧∀j (h:j<ps.length),Tr.In w' k ps[j]
theorem OffF.refl (F:Nat→Prop) (w:World):OffF F w w:=⟨rfl,rfl,rfl,Nat.le_refl _,fun _ _ _=>rfl⟩
theorem Safe.step {F F':Nat→Prop} {w w1:World} {k:Nat} {t:Tr} (h:Safe F w k t) (ho:OffF F w w1) (hl:∀b,F' b→F b∨w.heap.size≤b):Safe F' w1 k t:=fun w' q=>h w' (ho.off q hl)
theorem SafeP.step {F F':Nat→Prop} {w w1:World} {k:Nat} {A:Option Addr} {ps:List Tr} (h:SafeP F w k A ps) (ho:OffF F w w1) (hl:∀b,F' b→F b∨w.heap.size≤b):SafeP F' w1 k A ps:=fun w' q=>h w' (ho.off q hl)
theorem Safe.parts {F:Nat→Prop} {w:World} {k:Nat} {t:Tr} (h:Safe F w (k+1) t):SafeP F w k t.addr t.parts:=fun w' q=>by
  have hi:=h w' q
  have hn:=hi.2.1.1
  exact ⟨fun h0=>by
    obtain ⟨b,off,ha,hb,hr⟩:=hi.2.2.1 (by rw[hn];exact h0)
    exact ⟨b,off,ha,hb,fun j hj=>hr j hj⟩,hi.2.2.2⟩
theorem SafeP.part {F:Nat→Prop} {w:World} {k:Nat} {A:Option Addr} {ps:List Tr} (h:SafeP F w k A ps) (j:Nat) (hj:j<ps.length):Safe F w k ps[j]:=fun w' q=>(h w' q).2 j hj
def wg (F:Nat→Prop) (g:Nat):Nat→Prop:=fun b=>F b∨b=g
theorem OffF.wg {F:Nat→Prop} {w w':World} (h:OffF F w w') (g:Nat):OffF (wg F g) w w':=⟨h.os,h.tape,h.output,h.size,fun b hb hn=>h.block b hb (fun q=>hn (Or.inl q))⟩
theorem wg_low {F F':Nat→Prop} {g n:Nat} (h:∀b,F' b→F b∨n≤b):∀b,wg F' g b→wg F g b∨n≤b:=fun b q=>by
  rcases q with q | q
  · rcases h b q with z | z
    · exact Or.inl (Or.inl z)
    · exact Or.inr z
  · exact Or.inl (Or.inr q)
def KRow (w:World) (X:Nat→Prop) (kb:Nat) (v:Value) (ks:List Int):Prop:=kb<w.heap.size∧∃A c,v=.slice A ks.length c∧ks.length≤c∧(0<ks.length→∃off,A=some ⟨kb,off,none⟩∧¬X kb∧∀j (h:j<ks.length),w.cell? ⟨kb,off+j,none⟩=some (.int .i64 ks[j]))
theorem KRow.nil {w:World} (X:Nat→Prop) {kb:Nat} (h:kb<w.heap.size):KRow w X kb (.slice none 0 0) []:=⟨h,none,0,rfl,Nat.le_refl _,fun h=>absurd h (Nat.lt_irrefl 0)⟩
theorem KRow.off {w w':World} {X X':Nat→Prop} {kb:Nat} {v:Value} {ks:List Int} (h:KRow w X kb v ks) (ho:OffF X w w') (hl:∀b,X' b→X b∨w.heap.size≤b):KRow w' X' kb v ks:=by
  obtain ⟨hb,A,c,e,hlc,hr⟩:=h
  refine ⟨Nat.lt_of_lt_of_le hb ho.size,A,c,e,hlc,fun h0=>?_⟩
  obtain ⟨off,e2,hx,hc⟩:=hr h0
  refine ⟨off,e2,fun q=>?_,fun j hj=>?_⟩
  · rcases hl kb q with z | z
    · exact hx z
    · omega
  · rw[World.cell?_of_block (w:=w) (ho.block kb hb hx)];exact hc j hj
def BKs (w:World) (g:Nat) (a:Value) (F:Nat→Prop) (kb:Nat) (ks:List Int):Prop:=∃v,BAt w g a v∧KRow w (wg F g) kb v ks
theorem BKs.kb {w:World} {g kb:Nat} {a:Value} {F:Nat→Prop} {ks:List Int} (h:BKs w g a F kb ks):kb<w.heap.size:=by obtain ⟨_,_,h,_⟩:=h;exact h
theorem BKs.lt {w:World} {g:Nat} {a:Value} {F:Nat→Prop} {kb:Nat} {ks:List Int} (h:BKs w g a F kb ks):g<w.heap.size:=by obtain ⟨v,h,_⟩:=h;exact At.lt h
theorem BKs.cell {w:World} {g:Nat} {a:Value} {F:Nat→Prop} {kb:Nat} {ks:List Int} (h:BKs w g a F kb ks):w.cell? ⟨g,0,none⟩=some a:=by obtain ⟨v,h,_⟩:=h;exact At.cell h 0
theorem BKs.off {w w':World} {g:Nat} {a:Value} {F F':Nat→Prop} {kb:Nat} {ks:List Int} (h:BKs w g a F kb ks) (hg:¬F g) (ho:OffF F w w') (hl:∀b,F' b→F b∨w.heap.size≤b):BKs w' g a F' kb ks:=by
  obtain ⟨v,h1,h2⟩:=h
  exact ⟨v,h1.off hg ho,h2.off (ho.wg g) (wg_low hl)⟩
theorem BKs.next {w w':World} {g:Nat} {a:Value} {F:Nat→Prop} {kb:Nat} {ks:List Int} (h:BKs w g a F kb ks) (hb:Below w.heap.size w w'):BKs w' g a F kb ks:=by
  obtain ⟨v,h1,h2⟩:=h
  exact ⟨v,(hb.block g (At.lt h1)).trans h1,h2.off (OffF.of hb) (fun b q=>Or.inl q)⟩
def GrowsB (AA:World→Value→List Nd→(Nat→Prop)→Prop) (w:World) (a:Value) (ns:List Nd) (F:Nat→Prop) (g kb:Nat) (rest:List Int) (R:List Nd→Int→Prop) (e:Ending) (w':World):Prop :=
  ∃(r:Int) (more:List Nd) (F':Nat→Prop),e=.returned (.int .i64 r)∧AA w' a (ns++more) F'∧(∀b,F' b→F b∨w.heap.size≤b)∧OffF (wg F g) w w'∧Canon (ns++more)∧isIn (ns++more) r∧BKs w' g a F' kb rest∧R more r
theorem GrowsB.of {AA:World→Value→List Nd→(Nat→Prop)→Prop} {w w1 w':World} {a:Value} {ns:List Nd} {F:Nat→Prop} {g kb:Nat} {rest:List Int} {R:List Nd→Int→Prop} {e:Ending} (h:Grows AA w1 a ns F R e w') (hb:Below w.heap.size w w1) (hk:BKs w g a F kb rest) (hg:¬F g):GrowsB AA w a ns F g kb rest R e w':=by
  obtain ⟨r,more,F',g0,g1,g2,g3,g4,g5,g6⟩:=h
  have ho:OffF F w w':=(OffF.of hb).off g3 (fun b q=>Or.inl q)
  have hl:∀b,F' b→F b∨w.heap.size≤b:=fun b q=>by
    rcases g2 b q with z | z
    · exact Or.inl z
    · exact Or.inr (Nat.le_trans hb.size z)
  exact ⟨r,more,F',g0,g1,hl,ho.wg g,g4,g5,hk.off hg ho hl,g6⟩
theorem GrowsB.from {AA:World→Value→List Nd→(Nat→Prop)→Prop} {w w1 w':World} {a:Value} {ns:List Nd} {F:Nat→Prop} {g kb:Nat} {rest:List Int} {R:List Nd→Int→Prop} {e:Ending} (h:GrowsB AA w1 a ns F g kb rest R e w') (hb:Below w.heap.size w w1):GrowsB AA w a ns F g kb rest R e w':=by
  obtain ⟨r,more,F',g0,g1,g2,g3,g4⟩:=h
  refine ⟨r,more,F',g0,g1,fun b q=>?_,(OffF.of hb).off g3 (fun b q=>Or.inl q),g4⟩
  rcases g2 b q with z | z
  · exact Or.inl z
  · exact Or.inr (Nat.le_trans hb.size z)
def GoodP (G:Tr→List Int→Prop):List Tr→List Int→Prop
  | [],ks=>ks=[]
  | p::ps,ks=>∃x y,ks=x++y∧G p x∧GoodP G ps y
def LookD (D:List Nat→List Nat→Prop) (k:Nat) (t:Tr) (n:Int):Prop:=0≤n∧n<4∧∀l bits:List Nat,(∀b∈l,b<256)→l.length≤8→D l bits→∀i,i<l.length+1→bitF bits n.toNat false i i=spansS l k (bareT t) i i
def GoodK (D:List Nat→List Nat→Prop):Nat→Tr→List Int→Prop
  | 0,_,_=>False
  | k+1,t,ks=>if 8≤t.kind then ∃n,ks=[n]∧LookD D (k+1) t n else GoodP (fun p x=>GoodK D k p x) t.parts ks
section
variable {AA:World→Value→List Nd→(Nat→Prop)→Prop}
def NodeR (D:List Nat→List Nat→Prop) (ns:List Nd) (k:Nat) (t:Tr) (more:List Nd) (r:Int):Prop:=Wide (ns++more) (sz k t) r∧TabR D (ns++more) r (fun l=>spansS l k t)∧more.length≤cst (sz k t) k
def NodeIs (D:List Nat→List Nat→Prop) (AA:World→Value→List Nd→(Nat→Prop)→Prop) (k:Nat):Prop:=∀(t:Tr) {w:World} {a:Value} {ns:List Nd} {F:Nat→Prop} (g kb:Nat) (ks rest:List Int),AA w a ns F→Canon ns→BKs w g a F kb (ks++rest)→¬F g→Safe (wg F g) w k t→formedS k t=true→GoodK D k t ks→sizeS k t≤150→ns.length+cst (sz k t) k≤14000 →
  Calls Tryz.prog 42 #[.pointer (some ⟨g,0,none⟩),.agg t.cs.toArray] w (GrowsB AA w a ns F g kb rest (NodeR D ns k t))
def arrI (xs:List Int) (n:Nat):Array Value:=((xs++List.replicate (n-xs.length) 0).map (Value.int .i64)).toArray
theorem arrI_none (n:Nat):madeCells #[.int .i64 0] n=arrI [] n:=by
  unfold madeCells arrI
  apply Array.ext
  · simp
  · intro i h1 h2
    simp[Nat.mod_one]
theorem arrI_set {xs:List Int} {n:Nat} (x:Int) (h:xs.length<n):(arrI xs n).setIfInBounds xs.length (.int .i64 x)=arrI (xs++[x]) n:=by
  unfold arrI
  rw[List.setIfInBounds_toArray]
  congr 1
  obtain ⟨m,hm⟩:∃m,n-xs.length=m+1:=⟨n-xs.length-1,by omega⟩
  rw[List.length_append,List.length_singleton,hm,show n-(xs.length+1)=m by omega,List.replicate_succ,List.map_append,List.map_cons,List.set_append,if_neg (by simp)]
  simp
theorem arrI_get {xs:List Int} {n:Nat} (h:xs.length<n):(arrI xs n)[xs.length]?=some (.int .i64 0):=by
  unfold arrI
  obtain ⟨m,hm⟩:∃m,n-xs.length=m+1:=⟨n-xs.length-1,by omega⟩
  rw[hm,List.replicate_succ]
  simp
theorem arrI_row {w:World} {g:Nat} {xs:List Int} (h:At w g 3 (arrI xs xs.length)) (hm:xs.length≤1000000):IdRow w g (.slice (some ⟨g,0,none⟩) xs.length xs.length) xs:=by
  unfold arrI at h
  rw[Nat.sub_self,List.replicate_zero,List.append_nil] at h
  refine ⟨by unfold idL;simp,Or.inr ⟨g,xs.length,_,rfl,Nat.le_refl _,h,Nat.le_refl _,by unfold maxLen;omega,by simp,?_⟩⟩
  unfold idL
  rw[Nat.mul_one,List.take_of_length_le (by simp)]
theorem make_int (n:Nat) (hn:n≤100000) (W:World):(Instr.makeSlice 73 (.int .i64 (n:Int)) (.int .i64 (n:Int))).run Tryz.prog W=.ok (.slice (some ⟨W.heap.size,0,none⟩) n n) (W.alloc (.cells (arrI [] n) 3)):=by
  rw[←arrI_none]
  exact run_make_row' (P:=Tryz.prog) 73 3 (.int .i64 0) 8 Tryz.underlying73 info_intR rfl .i64 .i64 n (by omega) (by omega) W
theorem BKs.set_off {w:World} {g kb h o:Nat} {a:Value} {F:Nat→Prop} {ks:List Int} (q:BKs w g a F kb ks) (h1:h≠g) (h2:h≠kb) (x:Value):BKs (w.setCell ⟨h,o,none⟩ x) g a F kb ks:=by
  obtain ⟨v,z1,hb,A,c,e,hlc,hr⟩:=q
  refine ⟨v,z1.other (show g≠h from fun e=>h1 e.symm) _,by rw[World.size_setCell];exact hb,A,c,e,hlc,fun h0=>?_⟩
  obtain ⟨off,e2,hx,hc⟩:=hr h0
  exact ⟨off,e2,hx,fun j hj=>by rw[World.cell?_of_block (w:=w) (Below.heap_setCell w ⟨h,o,none⟩ x kb (fun e=>h2 e.symm))];exact hc j hj⟩
structure NJ (D:List Nat→List Nat→Prop) (AA:World→Value→List Nd→(Nat→Prop)→Prop) (w:World) (a:Value) (ns:List Nd) (F:Nat→Prop) (k:Nat) (g kb:Nat) (ps:List Tr) (all rest:List Int) (j:Nat) (W:World) (xs:List Int) (more:List Nd) (F':Nat→Prop):Prop where
  ab:AA W a (ns++more) F'
  low:∀b,F' b→F b∨w.heap.size+1≤b
  off:OffF (wg F g) w W
  canon:Canon (ns++more)
  len:xs.length=j
  size:w.heap.size+1≤W.heap.size
  row:At W w.heap.size 3 (arrI xs ps.length)
  all:AllR D (ns++more) k xs (ps.take j)
  wide:∀i (h1:i<xs.length) (h2:i<ps.length),Wide (ns++more) (sz k ps[i]) xs[i]
  few:more.length≤cst ((ps.take j).map (sz k)).sum k
  looks:∃y,GoodP (fun p x=>GoodK D k p x) (ps.drop j) y∧BKs W g a F' kb (y++rest)
theorem bNodes (S:ArenaMap AA) (k:Nat) (IH:NodeIs D AA k) (A:Option Addr) (c:Nat) (ps:List Tr) {w:World} {a:Value} {ns:List Nd} {F:Nat→Prop} (g kb:Nat) (all rest:List Int) (h:AA w a ns F) (hc:Canon ns) (hb:BKs w g a F kb (all++rest)) (hgF:¬F g) (hs:SafeP (wg F g) w k A ps) (hf:∀p∈ps,formedS k p=true) (hl:GoodP (fun p x=>GoodK D k p x) ps all) (hz:∀p∈ps,sizeS k p≤150) (hn:ps.length≤1000) (hroom:ns.length+cst ((ps.map (sz k)).sum) k≤14000) :
    Calls Tryz.prog 56 #[.pointer (some ⟨g,0,none⟩),.slice A ps.length c] w fun e w'=>∃(v:Value) (xs:List Int) (more:List Nd) (F':Nat→Prop),e=.returned v∧IdRow w' w.heap.size v xs∧(∀b,v.ownBlock=some b→¬F' b)∧AA w' a (ns++more) F'∧(∀b,F' b→F b∨w.heap.size≤b)∧OffF (wg F g) w w'∧Canon (ns++more)∧BKs w' g a F' kb rest∧AllR D (ns++more) k xs ps∧(∀i (h1:i<xs.length) (h2:i<ps.length),Wide (ns++more) (sz k ps[i]) xs[i])∧more.length≤cst ((ps.map (sz k)).sum) k:=by
  have HA:=Lib.hid h
  have HC:=Lib.hid hc
  have HgF:=Lib.hid hgF
  have HS:=Lib.hid hs
  have HFm:=Lib.hid hf
  have HZz:=Lib.hid hz
  have HNn:=Lib.hid hn
  have HRoom:=Lib.hid hroom
  have HLw:=Lib.hid hb.lt
  have HKb:=Lib.hid hb.kb
  have HIH:=Lib.hid IH
  have hmk:=make_int ps.length (by omega) w
  have hJ0:NJ D AA w a ns F k g kb ps all rest 0 (w.alloc (.cells (arrI [] ps.length) 3)) [] [] F :=
    ⟨by rw[List.append_nil];exact S.next h ((Below.refl _ _).alloc (Nat.le_refl _) _),fun b q=>Or.inl q,OffF.of ((Below.refl _ _).alloc (Nat.le_refl _) _),by rw[List.append_nil];exact hc,rfl,by rw[World.size_alloc];exact Nat.le_refl _,At.new _ _ _,by rw[List.take_zero];exact AllR.nil,fun i h1=>absurd h1 (Nat.not_lt_zero _),Nat.zero_le _,all,by rw[List.drop_zero];exact hl,hb.next ((Below.refl _ _).alloc (Nat.le_refl _) _)⟩
  have HJ0:=Lib.hid hJ0
  clear h hc hb hgF hs hf hl hz hroom IH hJ0
  go_enter Tryz.func56,Tryz.ntmps56
  go_wp2_with fail
  go_loopw [13] (fun i wr=>∃(j:Nat) (xs:List Int) (more:List Nd) (F':Nat→Prop),j≤ps.length∧i=.int .i64 j∧Hid (NJ D AA w a ns F k g kb ps all rest j wr xs more F')) (fun i _=>ps.length-(intOf i).toNat)
  case atStart=>exact ⟨0,[],[],F,Nat.zero_le _,rfl,HJ0⟩
  case round =>
    clear hmk
    obtain ⟨j,xs,more,F',hj,rfl,HJ⟩:=hrel
    by_cases hlt:j<ps.length
    · obtain ⟨b,off,ha,hb,hr⟩:=(HS.out wr HJ.out.off).1 (by omega)
      have HR:=Lib.hid (hr j hlt)
      have hA2:=boxW_at wr ps[j]
      have HBx:=Lib.hid (boxW_next wr ps[j])
      have hlow:∀b,F' b→F b∨w.heap.size≤b:=fun b z=>by
        rcases HJ.out.low b z with z | z
        · exact Or.inl z
        · exact Or.inr (by omega)
      obtain ⟨y,hgd,hbk⟩:=HJ.out.looks
      rw[List.drop_eq_getElem_cons hlt] at hgd
      obtain ⟨y1,y2,rfl,hg1,hg2⟩:=hgd
      rw[List.append_assoc] at hbk
      have HG2:=Lib.hid hg2
      have hgF':¬F' g:=fun z=>by
        rcases HJ.out.low _ z with z | z
        · exact HgF.out z
        · have:=HLw.out;omega
      have HSum:Hid (((ps.take (j+1)).map (sz k)).sum=((ps.take j).map (sz k)).sum+sz k ps[j]):=Lib.hid (sumN_take hlt)
      have HSle:Hid (((ps.take (j+1)).map (sz k)).sum≤(ps.map (sz k)).sum):=Lib.hid (sumN_take_le _)
      have hmem:=List.getElem_mem hlt
      have hcs:more.length+cst (sz k ps[j]) k≤cst ((ps.map (sz k)).sum) k:=by
        have h1:=cst_mono (k:=k) HSle.out
        rw[HSum.out,cst_add] at h1
        have:=HJ.out.few
        omega
      have HNo:=Lib.hid (HIH.out ps[j] g kb y1 (y2++rest) (S.next HJ.out.ab HBx.out) HJ.out.canon (hbk.next HBx.out) hgF' ((HS.out.part j hlt).step (HJ.out.off.then HBx.out) (wg_low hlow)) (HFm.out _ hmem) hg1 (HZz.out _ hmem) (by have:=HRoom.out;rw[List.length_append];omega))
      have HgF':=Lib.hid hgF'
      have HLow:=Lib.hid hlow
      have HCs:=Lib.hid hcs
      clear hr hb hlow hgF' hmem hcs hbk hg1 hg2
      rw[ha]
      clear ha
      have hjz:(0:Int)≤(j:Int):=by omega
      have hjn:(j:Int)<(ps.length:Int):=by omega
      go_wp2_with (first
        | (refine wpList_load_mid rfl 27 _ rfl b (off+j*9) rfl ps[j].cs _ HR.out Tryz.underlying27 rfl (by rw[Tr.cs_length];kernel_rfl) ?_)
        | (refine wpList_store_row rfl 27 _ _ rfl wr.heap.size ps[j].cs.toArray rfl rfl 27 Tr.blank.cs.toArray (At.new _ _ _) (by kernel_rfl) rfl (Tr.one _) ?_;change Exit.then _ _ _ _ (boxW wr ps[j]))
        | (refine wpList_load_row rfl 27 _ rfl wr.heap.size rfl 27 ps[j].cs.toArray (0,0) _ hA2 Tryz.underlying27 rfl (by kernel_rfl) ?_) | fail)
      refine HNo.out.mono ?_
      rintro e W6 ⟨x,more2,F2,rfl,k1,k2,k3,k4,k5,kz,k6⟩
      have hoB:OffF (wg F' g) wr W6:=(OffF.of HBx.out).off k3 (fun b z=>Or.inl z)
      have hrow:At W6 w.heap.size 3 (arrI xs ps.length):=(hoB.block _ (At.lt HJ.out.row) (fun z=>by
        rcases z with z | z
        · rcases HJ.out.low _ z with z | z
          · have:=S.low HA.out _ z;omega
          · omega
        · have:=HLw.out;omega)).trans HJ.out.row
      have hcj:W6.cell? ⟨w.heap.size,j,none⟩=some (.int .i64 0):=by
        have h1:=hrow.cell j
        rw[h1]
        have h2:=arrI_get (xs:=xs) (n:=ps.length) (by rw[HJ.out.len];exact hlt)
        rw[HJ.out.len] at h2
        exact h2
      have fj:=hrow.free j
      have HN7:Hid (NJ D AA w a ns F k g kb ps all rest (j+1) (W6.setCell ⟨w.heap.size,j,none⟩ (.int .i64 x)) (xs++[x]) (more++more2) F2):=Lib.hid (by
        have hnew:¬F' w.heap.size:=fun z=>by
          rcases HJ.out.low _ z with z | z
          · have:=S.low HA.out _ z;omega
          · omega
        have hsz:wr.heap.size≤(boxW wr ps[j]).heap.size:=HBx.out.size
        have hF2:¬F2 w.heap.size:=fun z=>by
          rcases k2 _ z with z | z
          · exact hnew z
          · have:=HJ.out.size;omega
        have hbnd:∀b,w.heap.size≠b→(W6.setCell ⟨w.heap.size,j,none⟩ (.int .i64 x)).heap[b]?=W6.heap[b]?:=fun b hb=>Below.heap_setCell W6 ⟨w.heap.size,j,none⟩ _ b (fun e=>hb e.symm)
        have ho:OffF (wg F g) w W6:=HJ.out.off.off hoB (wg_low HLow.out)
        have hxl:=HJ.out.len
        refine ⟨S.keep (by rw[←List.append_assoc];exact k1) (fun b z=>hbnd b (fun e=>hF2 (by rw[e];exact z))),fun b z=>?_,⟨ho.os,ho.tape,ho.output,by rw[World.size_setCell];exact ho.size,fun b hb hn=>?_⟩,by rw[←List.append_assoc];exact k4,by rw[List.length_append,hxl];rfl,by rw[World.size_setCell];exact Nat.le_trans HJ.out.size hoB.size,?_,?_,fun i h1 h2=>?_,?_,?_⟩
        · rcases k2 b z with z | z
          · exact HJ.out.low b z
          · have:=HJ.out.size;exact Or.inr (by omega)
        · rw[hbnd b (by omega)]
          exact ho.block b hb hn
        · have h1:=hrow.set j (.int .i64 x)
          have h2:=arrI_set (xs:=xs) (n:=ps.length) x (by rw[hxl];exact hlt)
          rw[hxl] at h2
          rw[h2] at h1
          exact h1
        · rw[←List.append_assoc,List.take_succ_eq_append_getElem hlt]
          exact (HJ.out.all.up more2).snoc k5 k6.2.1
        · rw[←List.append_assoc]
          rw[List.length_append,List.length_singleton] at h1
          by_cases e:i<xs.length
          · rw[List.getElem_append_left e]
            exact (HJ.out.wide i e h2).up HJ.out.canon.fine more2 (HJ.out.all.2.1 _ (List.getElem_mem e))
          · have e1:i=j:=by omega
            subst e1
            rw[List.getElem_append_right (by omega)]
            simpa [hxl] using k6.1
        · rw[HSum.out,cst_add,List.length_append]
          have h1:=HJ.out.few
          have h2:=k6.2.2
          omega
        · exact ⟨y2,HG2.out,kz.set_off (by have:=HLw.out;omega) (by have:=HKb.out;omega) _⟩)
      clear k1 k2 k3 k4 k5 k6 kz hoB hrow
      go_wp2_with fail
      exact ⟨⟨j+1,xs++[x],more++more2,F2,by omega,by go_num,HN7⟩,by simp[intOf]<;>omega⟩
    · obtain rfl:j=ps.length:=by omega
      go_wp2_with fail
      go_ret
      have hl:=HJ.out.len
      have hall:=HJ.out.all
      have hfew:=HJ.out.few
      rw[List.take_length] at hall hfew
      have hrw:IdRow wr w.heap.size (.slice (some ⟨w.heap.size,0,none⟩) ps.length ps.length) xs:=by
        have h1:=arrI_row (xs:=xs) (by rw[hl];exact HJ.out.row) (by omega)
        rw[hl] at h1
        exact h1
      obtain ⟨y,hy1,hy2⟩:=HJ.out.looks
      rw[List.drop_length] at hy1
      obtain rfl:y=[]:=hy1
      refine ⟨_,xs,more,F',rfl,hrw,fun b e z=>?_,HJ.out.ab,fun b z=>?_,HJ.out.off,HJ.out.canon,hy2,hall,HJ.out.wide,hfew⟩
      · injection e with e
        subst e
        rcases HJ.out.low _ z with z | z
        · have:=S.low HA.out _ z;simp at this
        · simp at z;omega
      · rcases HJ.out.low b z with z | z
        · exact Or.inl z
        · exact Or.inr (by omega)
end
end Go.Proofs.YtgmpfnfomgadeaaGreat
