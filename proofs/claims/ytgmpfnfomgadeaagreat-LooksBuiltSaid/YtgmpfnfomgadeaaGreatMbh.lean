/- Joined: BlNodeF, BlNodeL, BlNode. -/
import Derived.Test.YtgmpfnfomgadeaaGreatMbf
import Derived.Test.YtgmpfnfomgadeaaGreatMbe
import Derived.Test.YtgmpfnfomgadeaaGreatMad
import Derived.Deep.QuietTactic
import Derived.Test.YtgmpfnfomgadeaaGreatMbg
/- norm's builder: node, by kinds. -/
set_option linter.unusedSectionVars false
set_option linter.unusedSimpArgs false
set_option linter.unusedVariables false
set_option maxHeartbeats 16000000
set_option maxRecDepth 100000
namespace Go.Proofs.YtgmpfnfomgadeaaGreat
open Go.RowKit Go.Shelf
variable {D:List Nat→List Nat→Prop} {u:Value}
section
variable {AA:World→Value→List Nd→(Nat→Prop)→Prop}
def TimesIs (D:List Nat→List Nat→Prop) (AA:World→Value→List Nd→(Nat→Prop)→Prop):Prop:=∀{w:World} {a u:Value} {ns:List Nd} {F:Nat→Prop} {f:List Nat→Tbl} (g n:Nat) (x lo hi:Int),AA w a ns F→Canon ns→BAt w g a u→¬F g→isIn ns x→Wide ns n x→TabR D ns x f→1≤n→(0≤lo∧lo≤20∧(hi=-1∨(lo≤hi∧1≤hi∧hi≤20)))→n*(timesS lo hi).toNat≤150→ns.length≤14000 →
  Calls Tryz.prog 60 #[.pointer (some ⟨g,0,none⟩),.int .i64 x,.int .i64 lo,.int .i64 hi] w (Grows AA w a ns F fun more r=>Wide (ns++more) (n*(timesS lo hi).toNat+1) r∧TabR D (ns++more) r (fun l=>timesT (f l) (l.length+1) lo.toNat hi)∧more.length≤3+2*(n*(timesS lo hi).toNat)+5*(timesS lo hi).toNat)
theorem cst_times {n T k:Nat} (hn:1≤n) (hT:1≤T):3+2*(n*T)+5*T+cst n k≤cst (n*T+1) (k+1):=by
  obtain ⟨m,rfl⟩:∃m,T=m+1:=⟨T-1,by omega⟩
  have e:n*(m+1)=n*m+n:=Nat.mul_succ n m
  rw[cst_succ,e,cst_add,cst_add]
  have h1:12≤cst 1 k:=by unfold cst;omega
  have h2:12*(n*m)≤cst (n*m) k:=by unfold cst;omega
  have h3:1*m≤n*m:=Nat.mul_le_mul_right m hn
  omega
theorem bNode7 (S:ArenaMap AA) (k:Nat) (IH:NodeIs D AA k) (HTi:TimesIs D AA):NodeK D AA k 7:=by
  intro t w a ns F g kb ks rest hk h hc hb hgF hs hf hl hz hroom
  have hA:At (w.alloc (Obj.cells t.cs.toArray 27)) w.heap.size 27 t.cs.toArray:=At.new _ _ _
  have hB:Below w.heap.size w (w.alloc (Obj.cells t.cs.toArray 27)):=(Below.refl _ _).alloc (Nat.le_refl _) _
  have hS1:1≤sz (k+1) t:=sz_pos hf
  have hcs:12*sz (k+1) t≤cst (sz (k+1) t) (k+1):=by unfold cst;omega
  have hbW:BKs (w.alloc (Obj.cells t.cs.toArray 27)) g a F kb (ks++rest):=hb.next hB
  have cb:(w.alloc (Obj.cells t.cs.toArray 27)).cell? ⟨g,0,none⟩=some a:=hbW.cell
  have HI:=Lib.hid (hs w (OffF.refl _ w))
  have hgp:GoodP (fun p x=>GoodK D k p x) t.parts ks:=by unfold GoodK at hl;rwa [if_neg (by rw[hk];decide)] at hl
  obtain ⟨c0,c5,c6,c7,c8⟩:=At.tr_cell hA
  obtain ⟨s1,s2,s3,s4⟩:=At.tr_set hA
  rw[hk] at c0
  rw[HI.out.2.1.1] at c5
  obtain ⟨gp,rfl⟩:=S.ptr h
  have HA:=Lib.hid h
  have HC:=Lib.hid hc
  have HgF:=Lib.hid hgF
  have HS:=Lib.hid hs
  have HK:=Lib.hid hk
  have HZ:=Lib.hid hz
  have HFo:=Lib.hid hf
  have HLo:=Lib.hid hgp
  have HRoom:=Lib.hid hroom
  have HS1:=Lib.hid hS1
  have HCs:=Lib.hid hcs
  have HB:=Lib.hid hB
  have HBW:=Lib.hid hbW
  have HAt:=Lib.hid hA
  have HT:Hid (∀w2,OffF (wg F g) (w.alloc (Obj.cells t.cs.toArray 27)) w2→w2.cell? ⟨g,0,none⟩=some (.pointer (some ⟨gp,0,none⟩))→THere t gp g w.heap.size w2):=Lib.hid (fun w2 ho hc=>there_off HI.out.2.1.1 (S.low h) hb.lt ho hc)
  have hT:THere t gp g w.heap.size (w.alloc (Obj.cells t.cs.toArray 27)):=HT.out _ (OffF.refl _ _) hbW.cell
  have hsum:=sz_sum hz
  have hfo:ownF t=true∧t.parts.all (formedS k)=true:=by
    have:(ownF t&&t.parts.all (formedS k))=true:=hf
    rw[Bool.and_eq_true] at this
    exact this
  have hfp:∀p∈t.parts,formedS k p=true:=fun p hp=>List.all_eq_true.1 hfo.2 p hp
  have hzp:∀p∈t.parts,sizeS k p≤150:=fun p hp=>by have h1:=sz_mem (k:=k) hp;have h2:=sz_int k p;omega
  have htf:timesF t:=by
    have:=hfo.1
    unfold ownF at this
    exact (of_decide_eq_true this).2.2.2.2.2 hk
  have hT1:1≤(timesS t.lo t.hi).toNat:=by have:=timesS_ge t.lo t.hi;omega
  have hst:=sz_times hz hk
  have hcp:cst ((t.parts.map (sz k)).sum) k≤cst (sz (k+1) t) (k+1):=by
    rw[cst_succ]
    have:=cst_mono (k:=k) (show (t.parts.map (sz k)).sum≤sz (k+1) t by omega)
    omega
  have hln:t.parts.length=1:=by
    have:=hfo.1
    unfold ownF cntF at this
    have:=(of_decide_eq_true this).2.1
    rw[hk] at this
    simp at this
    omega
  obtain ⟨p,hp⟩:∃p,t.parts=[p]:=by
    match q:t.parts,hln with
    | [p],_=>exact ⟨p,rfl⟩
  have hsp:SafeP (wg F g) w k t.addr [p]:=by have:=hs.parts;rw[hp] at this;exact this
  obtain ⟨b,off,ha,hblt,hr⟩:=(hsp w (OffF.refl _ w)).1 (by simp)
  have HRg:Hid (∀w2,OffF (wg F g) (w.alloc (Obj.cells t.cs.toArray 27)) w2→w2.rangeAt b off p.cs):=Lib.hid (fun w2 ho=>by
    obtain ⟨b',off',ha',_,hr'⟩:=(hsp w2 ((OffF.of hB).off ho (fun b z=>Or.inl z))).1 (by simp)
    rw[ha] at ha'
    injection ha' with ha'
    injection ha' with e1 e2
    subst e1 e2
    have:=hr' 0 (by simp)
    simpa using this)
  have hR0:(w.alloc (Obj.cells t.cs.toArray 27)).rangeAt b off p.cs:=HRg.out _ (OffF.refl _ _)
  have hmp:p∈t.parts:=by rw[hp];simp
  have hszp:(t.parts.map (sz k)).sum=sz k p:=by rw[hp];simp
  have hgq:GoodK D k p ks:=by
    rw[hp] at hgp
    obtain ⟨x,y,rfl,h1,h2⟩:=hgp
    obtain rfl:y=[]:=h2
    rw[List.append_nil];exact h1
  have HNo:Hid (∀W',Below (w.alloc (Obj.cells t.cs.toArray 27)).heap.size (w.alloc (Obj.cells t.cs.toArray 27)) W'→Calls Tryz.prog 42 #[.pointer (some ⟨g,0,none⟩),.agg p.cs.toArray] W' (GrowsB AA (w.alloc (Obj.cells t.cs.toArray 27)) (.pointer (some ⟨gp,0,none⟩)) ns F g kb rest (NodeR D ns k p))):=Lib.hid (fun W' hb2=>(IH p g kb ks rest (S.next (S.next h hB) hb2) hc (hbW.next hb2) hgF ((hsp.part 0 (by simp)).step ((OffF.of hB).then hb2) (fun b q=>Or.inl q)) (hfp p hmp) hgq (hzp p hmp) (by rw[hszp] at hcp;omega)).mono (fun _ _ g=>g.from hb2))
  have hx1:1≤sz k p:=sz_pos (hfp p hmp)
  have HX1:=Lib.hid hx1
  have HP:=Lib.hid hp
  have HSz:=Lib.hid hszp
  rw[hszp] at hst hcp
  have HSt:=Lib.hid hst
  have HT1:=Lib.hid hT1
  have HTf:=Lib.hid htf
  have HSum:=Lib.hid hsum
  have HCp:=Lib.hid hcp
  have hln1:=hln
  clear hsum hfo hfp hzp hcp htf hT1 hst
  clear hln hsp hblt hr hmp hszp hx1 hgq
  have hp1:=hp
  clear hp
  have hln:=hln1
  (try clear hpl0);clear h hc hb hgF hs hf hgp hl hz hroom hS1 hcs hk hB hbW hA
  clear IH hln1 c5 c6 c7 c8 s1 s2 s3 s4
  go_enter Tryz.func42,Tryz.ntmps42
  go_wp2_with fail
  refine wp_region_noPanic ?_
  refine wp_region_held_drew (S:=(fun w'=>THere t gp g w.heap.size w'∧w'.rangeAt b off p.cs)) (by kernel_rfl) (by exact ⟨hT,hR0⟩) (fun hHeld=>?_)
  refine wpAnyH_take (i:=0) (oi:=⟨some 75,_,_,_,_,_⟩) (v:=?_) rfl (by kernel_rfl) (by kernel_rfl) (by kernel_rfl) (fun _ _ _ h=>h) (Or.inl ⟨by rfl,?_⟩) (by exact hHeld) ?_
  rotate_left
  · (intro w hSw;(try dsimp only at hSw);go_simp;try (with_reducible rfl))
  simp only[Act.put,List.setIfInBounds_toArray,List.set_cons_zero,List.set_cons_succ]
  refine wpAnyH_take (i:=1) (oi:=⟨some 76,_,_,_,_,_⟩) (v:=?_) rfl (by kernel_rfl) (by kernel_rfl) (by kernel_rfl) (fun _ _ _ h=>h) (Or.inl ⟨by rfl,?_⟩) (by exact hHeld) ?_
  rotate_left
  · (intro w hSw;(try dsimp only at hSw);go_simp;try (with_reducible rfl))
  simp only[Act.put,List.setIfInBounds_toArray,List.set_cons_zero,List.set_cons_succ]
  refine wpAnyH_take (i:=2) (oi:=⟨some 77,_,_,_,_,_⟩) (v:=?_) rfl (by kernel_rfl) (by kernel_rfl) (by kernel_rfl) (fun _ _ _ h=>h) (Or.inl ⟨by rfl,?_⟩) (by exact hHeld) ?_
  rotate_left
  · (intro w hSw;(try dsimp only at hSw);go_simp;try (with_reducible rfl))
  simp only[Act.put,List.setIfInBounds_toArray,List.set_cons_zero,List.set_cons_succ]
  refine wpAnyH_take (i:=3) (oi:=⟨some 78,_,_,_,_,_⟩) (v:=?_) rfl (by kernel_rfl) (by kernel_rfl) (by kernel_rfl) (fun _ _ _ h=>h) (Or.inl ⟨by rfl,?_⟩) (by exact hHeld) ?_
  rotate_left
  · (intro w hSw;(try dsimp only at hSw);obtain ⟨⟨q0,q1,q2,q3,q4,q5,q6,q7⟩,q8⟩:=hSw;rw[ha,hln] at q5;go_simp;try (with_reducible rfl))
  simp only[Act.put,List.setIfInBounds_toArray,List.set_cons_zero,List.set_cons_succ]
  refine wpAnyH_take (i:=4) (oi:=⟨some 79,_,_,_,_,_⟩) (v:=?_) rfl (by kernel_rfl) (by kernel_rfl) (by kernel_rfl) (fun _ _ _ h=>h) (Or.inl ⟨by rfl,?_⟩) (by exact hHeld) ?_
  rotate_left
  · (intro w hSw;(try dsimp only at hSw);go_simp;try (with_reducible rfl))
  simp only[Act.put,List.setIfInBounds_toArray,List.set_cons_zero,List.set_cons_succ]
  refine wpAnyH_take (i:=5) (oi:=⟨some 80,_,_,_,_,_⟩) (v:=_) rfl (by kernel_rfl) (by kernel_rfl) (by kernel_rfl) (fun _ _ _ h=>h) (yieldsIf_load_mid (by rfl) 27 _ rfl b off rfl p.cs _ (fun _ h=>h.2) Tryz.underlying27 rfl (by rw[Tr.cs_length];kernel_rfl)) (by exact hHeld) ?_
  simp only[Act.put,List.setIfInBounds_toArray,List.set_cons_zero,List.set_cons_succ]
  refine wpAnyH_take (i:=7) (oi:=⟨some 82,_,_,_,_,_⟩) (v:=?_) rfl (by kernel_rfl) (by kernel_rfl) (by kernel_rfl) (fun _ _ _ h=>h) (Or.inl ⟨by rfl,?_⟩) (by exact hHeld) ?_
  rotate_left
  · (intro w hSw;(try dsimp only at hSw);go_simp;try (with_reducible rfl))
  simp only[Act.put,List.setIfInBounds_toArray,List.set_cons_zero,List.set_cons_succ]
  refine wpAnyH_take (i:=8) (oi:=⟨some 83,_,_,_,_,_⟩) (v:=?_) rfl (by kernel_rfl) (by kernel_rfl) (by kernel_rfl) (fun _ _ _ h=>h) (Or.inl ⟨by rfl,?_⟩) (by exact hHeld) ?_
  rotate_left
  · (intro w hSw;(try dsimp only at hSw);obtain ⟨⟨q0,q1,q2,q3,q4,q5,q6,q7⟩,q8⟩:=hSw;rw[ha,hln] at q5;go_simp;try (with_reducible rfl))
  simp only[Act.put,List.setIfInBounds_toArray,List.set_cons_zero,List.set_cons_succ]
  refine wpAnyH_take (i:=9) (oi:=⟨some 84,_,_,_,_,_⟩) (v:=?_) rfl (by kernel_rfl) (by kernel_rfl) (by kernel_rfl) (fun _ _ _ h=>h) (Or.inl ⟨by rfl,?_⟩) (by exact hHeld) ?_
  rotate_left
  · (intro w hSw;(try dsimp only at hSw);go_simp;try (with_reducible rfl))
  simp only[Act.put,List.setIfInBounds_toArray,List.set_cons_zero,List.set_cons_succ]
  refine wpAnyH_take (i:=10) (oi:=⟨some 85,_,_,_,_,_⟩) (v:=?_) rfl (by kernel_rfl) (by kernel_rfl) (by kernel_rfl) (fun _ _ _ h=>h) (Or.inl ⟨by rfl,?_⟩) (by exact hHeld) ?_
  rotate_left
  · (intro w hSw;(try dsimp only at hSw);obtain ⟨⟨q0,q1,q2,q3,q4,q5,q6,q7⟩,q8⟩:=hSw;rw[ha,hln] at q5;go_simp;try (with_reducible rfl))
  simp only[Act.put,List.setIfInBounds_toArray,List.set_cons_zero,List.set_cons_succ]
  refine wpAnyH_ready (rs:=[6]) (by kernel_rfl) (by simp) ?_
  refine AllReadyH.cons (o:=⟨some 81,_,_,_,_,_⟩) rfl (fun K hK=>?_) AllReadyH.nil
  go_simp
  ((with_reducible refine (HNo.out _ (Below.refl _ _).drew).mono ?_))
  rintro e w2 ⟨x,more,F',rfl,n3,n4,n5,n6,n7,nb,n8⟩
  have HgF2:Hid (¬F' g):=Lib.hid (fun z=>by rcases n4 _ z with z | z;exact HgF.out z;have:=HBW.out.lt;omega)
  have HNb:=Lib.hid nb
  obtain ⟨u2,hba2,hkr2⟩:=id nb
  clear hkr2
  have hT:THere t gp g w.heap.size w2:=HT.out _ n5 nb.cell
  have hR0:=HRg.out _ n5
  have HJ:=Lib.hid (HTi g (sz k p) x t.lo t.hi n3 n6 hba2 HgF2.out n7 n8.1 n8.2.1 HX1.out HTf.out (by have h1:=HSt.out;have h2:=HSum.out.2;omega) (by rw[List.length_append];have h1:=HRoom.out;have h2:=HCp.out;have h3:=n8.2.2;omega))
  have HW1:=Lib.hid n4
  have HW2:=Lib.hid n5
  have HW3:=Lib.hid n6
  have HW4:=Lib.hid n7
  have HW5:=Lib.hid n8
  clear n3 n4 n5 n6 n7 nb hba2 n8
  dsimp only
  refine hK.out _ _ ?_ (fun hHeld=>?_)
  · exact ⟨hT,hR0⟩
  clear hK K
  try simp only[Act.put,List.setIfInBounds_toArray,List.set_cons_zero,List.set_cons_succ]
  refine wpAnyH_ready (rs:=[11]) (by kernel_rfl) (by simp) ?_
  refine AllReadyH.cons (o:=⟨some 86,_,_,_,_,_⟩) rfl (fun K hK=>?_) AllReadyH.nil
  go_simp
  ((with_reducible refine HJ.out.mono ?_))
  rintro e w3 ⟨r,more2,F2,rfl,g1,g2,g3,g4,g5,g6⟩
  have HG:Hid (GrowsB AA w (.pointer (some ⟨gp,0,none⟩)) ns F g kb rest (NodeR D ns (k+1) t) (.returned (.int .i64 r)) w3):=Lib.hid (GrowsB.from (w1:=(w.alloc (Obj.cells t.cs.toArray 27))) (by
    refine ⟨r,more++more2,F2,rfl,by rw[←List.append_assoc];exact g1,fun b z=>?_,HW2.out.off (g3.wg g) (wg_low HW1.out),by rw[←List.append_assoc];exact g4,by rw[←List.append_assoc];exact g5,HNb.out.off HgF2.out g3 g2,?_⟩
    · rcases g2 b z with z | z
      · exact HW1.out b z
      · exact Or.inr (Nat.le_trans HW2.out.size z)
    · have e:(fun l=>spansS l (k+1) t)=(fun l=>timesT (spansS l k p) (l.length+1) t.lo.toNat t.hi):=by funext l;show (if _ then _ else _)=_;simp[HK.out,HP.out]
      unfold NodeR
      rw[e,←List.append_assoc,HSt.out]
      refine ⟨g6.1,g6.2.1,?_⟩
      rw[List.length_append]
      have h1:=cst_times (k:=k) HX1.out HT1.out
      have h2:=HW5.out.2.2
      have h3:=g6.2.2
      omega) HB.out)
  have hT:THere t gp g w.heap.size w3:=HT.out _ (HW2.out.off (g3.wg g) (wg_low HW1.out)) (HNb.out.off HgF2.out g3 g2).cell
  have hR0:=HRg.out _ (HW2.out.off (g3.wg g) (wg_low HW1.out))
  clear g1 g2 g3 g4 g5 g6
  dsimp only
  refine hK.out _ _ ?_ (fun hHeld=>?_)
  · exact ⟨hT,hR0⟩
  clear hK K
  try simp only[Act.put,List.setIfInBounds_toArray,List.set_cons_zero,List.set_cons_succ]
  refine wpAnyH_take (i:=12) (oi:=⟨some 4,_,_,_,_,_⟩) (v:=?_) rfl (by kernel_rfl) (by kernel_rfl) (by kernel_rfl) (fun _ _ _ h=>h) (Or.inl ⟨by rfl,?_⟩) (by exact hHeld) ?_
  rotate_left
  · (intro w hSw;(try dsimp only at hSw);go_simp;try (with_reducible rfl))
  simp only[Act.put,List.setIfInBounds_toArray,List.set_cons_zero,List.set_cons_succ]
  refine wpAnyH_done (by kernel_rfl) ?_ _
  refine NoPanic.normal ?_
  go_wp2_with fail
  go_ret
  exact HG.out
end
end Go.Proofs.YtgmpfnfomgadeaaGreat

/- norm's builder: look; node of a pattern that looks. -/
set_option linter.unusedSectionVars false
set_option linter.unusedSimpArgs false
set_option linter.unusedVariables false
set_option maxHeartbeats 8000000
set_option maxRecDepth 100000
namespace Go.Proofs.YtgmpfnfomgadeaaGreat
open Go.RowKit Go.Shelf
variable {D:List Nat→List Nat→Prop} {u:Value}
section
variable {AA:World→Value→List Nd→(Nat→Prop)→Prop}
theorem nLookN (S:ArenaMid AA) {w:World} {a:Value} {ns:List Nd} {F:Nat→Prop} (k:Int) (neg:Bool) (h:AA w a ns F) (hc:Canon ns) (hk:0≤k∧k<4) (hroom:ns.length+4≤20000):Calls Tryz.prog 83 #[a,.int .i64 k,.bool neg] w (Grows AA w a ns F fun more r=>ndAt (ns++more) r.toNat=⟨8,noSt,k,0,neg⟩∧more.length≤1):=by
  have HP:=Lib.hid (nPut S ⟨8,noSt,k,0,neg⟩ h hc (fit_small _ _ _ _ (by unfold I64;omega) (by unfold I64;omega) (by unfold I64;omega)) (by unfold Nd.right aIn;rw[if_neg (by simp),if_neg (by simp),if_neg (by simp),if_neg (by simp),if_pos rfl,Nd.eqb_self];dsimp only;rw[decide_eq_true hk.1,decide_eq_true hk.2];rfl) (fits_bare (by decide) (by decide) (by decide) (by decide) (by decide) (by decide)) (by omega))
  clear h hc
  go_enter Tryz.func83,Tryz.ntmps83
  go_wp2_with fail
  refine HP.out.mono ?_
  rintro e w1 g
  obtain ⟨r,_,_,rfl,_⟩:=id g
  have HG:=Lib.hid (g.mono (R':=fun more r=>ndAt (ns++more) r.toNat=⟨8,noSt,k,0,neg⟩∧more.length≤1) (fun more r q=>⟨q.1,q.2.1⟩))
  clear g
  go_wp2_with fail
  go_ret
  exact HG.out
theorem BKs.cut {w:World} {g kb:Nat} {a:Value} {F:Nat→Prop} {n:Int} {rest:List Int} {c off:Nat} (hlc:rest.length+1≤c) (h:BAt w g a (.slice (some ⟨kb,off,none⟩) (rest.length+1) c)) (hr:KRow w (wg F g) kb (.slice (some ⟨kb,off,none⟩) (rest.length+1) c) (n::rest)) (hkg:kb≠g) (hc:∀j (hj:j<rest.length),w.cell? ⟨kb,off+1+j,none⟩=some (.int .i64 rest[j])) :
    BKs (w.setCell ⟨g,1,none⟩ (.slice (some ⟨kb,off+1,none⟩) rest.length (c-1))) g a F kb rest:=by
  refine ⟨_,h.set 1 _,by rw[World.size_setCell];exact hr.1,_,_,rfl,by omega,fun h0=>⟨off+1,rfl,?_,fun j hj=>?_⟩⟩
  · obtain ⟨_,_,_,_,_,q⟩:=hr
    obtain ⟨_,_,z,_⟩:=q (by simp)
    exact z
  · rw[World.cell?_of_block (w:=w) (Below.heap_setCell w ⟨g,1,none⟩ _ kb (fun e=>hkg e))]
    exact hc j hj
theorem bLook (S:ArenaMap AA) {w:World} {a:Value} {ns:List Nd} {F:Nat→Prop} (g kb:Nat) (n:Int) (rest:List Int) (neg:Bool) (h:AA w a ns F) (hc:Canon ns) (hb:BKs w g a F kb (n::rest)) (hgF:¬F g) (hn:0≤n∧n<4) (hroom:ns.length+4≤20000) :
    Calls Tryz.prog 61 #[.pointer (some ⟨g,0,none⟩),.bool neg] w (GrowsB AA w a ns F g kb rest fun more r=>ndAt (ns++more) r.toNat=⟨8,noSt,n,0,neg⟩∧more.length≤1):=by
  obtain ⟨v,hba,hr⟩:=hb
  obtain ⟨hkb,A,c,rfl,hlc,hrow⟩:=id hr
  obtain ⟨off,rfl,hx,hcs⟩:=hrow (by simp)
  have hkg:kb≠g:=fun e=>hx (Or.inr e)
  obtain ⟨gp,rfl⟩:=S.ptr h
  have c0:=At.cell hba 0
  have c1:=At.cell hba 1
  have f1:=At.free hba 1
  have k0:w.cell? ⟨kb,off,none⟩=some (.int .i64 n):=hcs 0 (by simp)
  have hlen:(n::rest).length=rest.length+1:=rfl
  rw[hlen] at hba hr c0 c1
  have hlc:rest.length+1≤c:=hlc
  have hcut:=BKs.cut hlc hba hr hkg (fun j hj=>by
    have:=hcs (j+1) (by simpa using hj)
    rw[show off+1+j=off+(j+1) by omega,this]
    simp)
  by_cases h1:c=1
  · subst h1
    obtain rfl:rest=[]:=List.eq_nil_of_length_eq_zero (by omega)
    have hcut:BKs (w.setCell ⟨g,1,none⟩ (.slice (some ⟨kb,off,none⟩) 0 0)) g (.pointer (some ⟨gp,0,none⟩)) F kb []:=⟨_,hba.set 1 _,by rw[World.size_setCell];exact hkb,_,_,rfl,Nat.le_refl _,fun h=>absurd h (Nat.lt_irrefl 0)⟩
    obtain ⟨w1,hw1⟩:∃w1,w1=w.setCell ⟨g,1,none⟩ (.slice (some ⟨kb,off,none⟩) 0 0):=⟨_,rfl⟩
    have hoff1:OffF (wg F g) w w1:=by
      rw[hw1]
      exact ⟨rfl,rfl,rfl,by rw[World.size_setCell];exact Nat.le_refl _,fun b hb hn=>Below.heap_setCell w ⟨g,1,none⟩ _ b (fun e=>hn (Or.inr e))⟩
    have hk1:BKs w1 g (.pointer (some ⟨gp,0,none⟩)) F kb []:=by rw[hw1];exact hcut
    have hA1:AA w1 (.pointer (some ⟨gp,0,none⟩)) ns F:=S.keep h (fun b hb=>by rw[hw1];exact Below.heap_setCell w ⟨g,1,none⟩ _ b (fun e=>hgF ((show b=g from e)▸hb)))
    have HL:=Lib.hid (nLookN S.toArenaMid n neg hA1 hc hn hroom)
    have HK1:=Lib.hid hk1
    have HO1:=Lib.hid hoff1
    have HgF:=Lib.hid hgF
    have HW1:=Lib.hid hw1
    have c10:=hk1.cell
    clear h hc hr hrow hcs hcut hoff1 hk1 hA1 hx hgF hw1 hba hkb hkg hn hroom hlen hlc
    go_enter Tryz.func61,Tryz.ntmps61
    go_wp2_with fail
    rw[←HW1.out]
    refine HL.out.mono ?_
    rintro e w2 ⟨r,more,F',rfl,g1,g2,g3,g4,g5,g6⟩
    have HG:Hid (GrowsB AA w (.pointer (some ⟨gp,0,none⟩)) ns F g kb [] (fun more r=>ndAt (ns++more) r.toNat=⟨8,noSt,n,0,neg⟩∧more.length≤1) (.returned (.int .i64 r)) w2):=Lib.hid ⟨r,more,F',rfl,g1,fun b q=>(by
      rcases g2 b q with z | z
      · exact Or.inl z
      · rw[HW1.out,World.size_setCell] at z;exact Or.inr z),HO1.out.off (g3.wg g) (fun b q=>Or.inl q),g4,g5,HK1.out.off HgF.out g3 g2,g6⟩
    clear g1 g2 g3 g4 g5 g6
    go_wp2_with fail
    go_ret
    exact HG.out
  · have hc1:¬c-1=0:=by omega
    have hc2:¬c=1:=h1
    obtain ⟨w1,hw1⟩:∃w1,w1=w.setCell ⟨g,1,none⟩ (.slice (some ⟨kb,off+1,none⟩) rest.length (c-1)):=⟨_,rfl⟩
    have hoff1:OffF (wg F g) w w1:=by
      rw[hw1]
      exact ⟨rfl,rfl,rfl,by rw[World.size_setCell];exact Nat.le_refl _,fun b hb hn=>Below.heap_setCell w ⟨g,1,none⟩ _ b (fun e=>hn (Or.inr e))⟩
    have hk1:BKs w1 g (.pointer (some ⟨gp,0,none⟩)) F kb rest:=by rw[hw1];exact hcut
    have hA1:AA w1 (.pointer (some ⟨gp,0,none⟩)) ns F:=S.keep h (fun b hb=>by rw[hw1];exact Below.heap_setCell w ⟨g,1,none⟩ _ b (fun e=>hgF ((show b=g from e)▸hb)))
    have HL:=Lib.hid (nLookN S.toArenaMid n neg hA1 hc hn hroom)
    have HK1:=Lib.hid hk1
    have HO1:=Lib.hid hoff1
    have HgF:=Lib.hid hgF
    have HW1:=Lib.hid hw1
    have c10:=hk1.cell
    clear h hc hr hrow hcs hcut hoff1 hk1 hA1 hx hgF hw1 hba hkb hkg hn hroom hlen hlc
    go_enter Tryz.func61,Tryz.ntmps61
    go_wp2_with fail
    rw[←HW1.out]
    refine HL.out.mono ?_
    rintro e w2 ⟨r,more,F',rfl,g1,g2,g3,g4,g5,g6⟩
    have HG:Hid (GrowsB AA w (.pointer (some ⟨gp,0,none⟩)) ns F g kb rest (fun more r=>ndAt (ns++more) r.toNat=⟨8,noSt,n,0,neg⟩∧more.length≤1) (.returned (.int .i64 r)) w2):=Lib.hid ⟨r,more,F',rfl,g1,fun b q=>(by
      rcases g2 b q with z | z
      · exact Or.inl z
      · rw[HW1.out,World.size_setCell] at z;exact Or.inr z),HO1.out.off (g3.wg g) (fun b q=>Or.inl q),g4,g5,HK1.out.off HgF.out g3 g2,g6⟩
    clear g1 g2 g3 g4 g5 g6
    go_wp2_with fail
    go_ret
    exact HG.out
theorem spans_look {l:List Nat} {k:Nat} {t:Tr} (h8:8≤t.kind∧t.kind≤11) (hneg:t.kind=10∨t.kind=11→t.neg=false) {i j:Nat} (hi:i<l.length+1) (hj:j<l.length+1):spansS l (k+1) t i j=(decide (i=j)&&(spansS l (k+1) (bareT t) i i != t.neg)):=by
  obtain ⟨kd,s,A,n,c,ps,lo,hi',neg⟩:=t
  have h8':8≤kd∧kd≤11:=h8
  have hneg':kd=10∨kd=11→neg=false:=hneg
  have hk:kd=8∨kd=9∨kd=10∨kd=11:=by omega
  rcases hk with rfl | rfl | rfl | rfl
  · show lookF ((ps.map (spansS l k)).headD noF) (l.length+1) false neg i j=(decide (i=j)&&(lookF ((ps.map (spansS l k)).headD noF) (l.length+1) false false i i != neg))
    generalize (ps.map (spansS l k)).headD noF=fa
    unfold lookF
    by_cases e:i=j
    · rw[if_pos e,if_pos rfl,decide_eq_true e];cases neg<;>simp
    · rw[if_neg e,decide_eq_false e];rfl
  · show lookF ((ps.map (spansS l k)).headD noF) (l.length+1) true neg i j=(decide (i=j)&&(lookF ((ps.map (spansS l k)).headD noF) (l.length+1) true false i i != neg))
    generalize (ps.map (spansS l k)).headD noF=fa
    unfold lookF
    by_cases e:i=j
    · rw[if_pos e,if_pos rfl,decide_eq_true e];cases neg<;>simp
    · rw[if_neg e,decide_eq_false e];rfl
  · rw[show (Tr.node 10 s A n c ps lo hi' neg).neg=false from hneg' (Or.inl rfl)]
    show beginF l i j=(decide (i=j)&&(beginF l i i != false))
    unfold beginF
    simp
  · rw[show (Tr.node 11 s A n c ps lo hi' neg).neg=false from hneg' (Or.inr rfl)]
    show endF l i j=(decide (i=j)&&(endF l i i != false))
    unfold endF
    simp
end
end Go.Proofs.YtgmpfnfomgadeaaGreat

/- norm's builder: node, whole, by what times does. -/
set_option linter.unusedSectionVars false
set_option linter.unusedSimpArgs false
set_option linter.unusedVariables false
set_option maxHeartbeats 16000000
set_option maxRecDepth 100000
namespace Go.Proofs.YtgmpfnfomgadeaaGreat
open Go.RowKit Go.Shelf
variable {D:List Nat→List Nat→Prop}
section
variable {AA:World→Value→List Nd→(Nat→Prop)→Prop}
theorem tab_look {ns:List Nd} (hc:Canon ns) {r n:Int} {k:Nat} {t:Tr} (hr:isIn ns r) (hnd:ndAt ns r.toNat=⟨8,noSt,n,0,t.neg⟩) (h8:8≤t.kind∧t.kind≤11) (hneg:t.kind=10∨t.kind=11→t.neg=false) (hl:LookD D (k+1) t n):TabR D ns r (fun l=>spansS l (k+1) t):=fun l bits hb h6 hd i j hi hj=>by
  have hk:kd ns r=8:=by unfold kd;rw[hnd]
  have ha:ka ns r=n:=by unfold ka;rw[hnd]
  rw[T_look hc.fine hr hk,ha,hnd]
  show bitF bits n.toNat t.neg i j=spansS l (k+1) t i j
  rw[spans_look h8 hneg hi hj]
  have h:=hl.2.2 l bits hb h6 hd i hi
  unfold bitF at h ⊢
  rw[←h]
  simp
theorem bNodeLook (S:ArenaMap AA) (k:Nat) (t:Tr) {w:World} {a:Value} {ns:List Nd} {F:Nat→Prop} (g kb:Nat) (ks rest:List Int) (hk:8≤t.kind) (h:AA w a ns F) (hc:Canon ns) (hb:BKs w g a F kb (ks++rest)) (hgF:¬F g) (hf:formedS (k+1) t=true) (hl:GoodK D (k+1) t ks) (hroom:ns.length+cst (sz (k+1) t) (k+1)≤14000) :
    Calls Tryz.prog 42 #[.pointer (some ⟨g,0,none⟩),.agg t.cs.toArray] w (GrowsB AA w a ns F g kb rest (NodeR D ns (k+1) t)):=by
  have hfo:=formed_own hf
  have hkd:t.kind≤11:=by unfold ownF at hfo;exact (of_decide_eq_true hfo).1.2
  have hneg:t.kind=10∨t.kind=11→t.neg=false:=fun q=>by
    unfold ownF at hfo
    rcases (of_decide_eq_true hfo).2.2.2.1 with z | z | z
    · omega
    · omega
    · exact z
  unfold GoodK at hl
  rw[if_pos hk] at hl
  obtain ⟨n,rfl,hld⟩:=hl
  have hA:At (w.alloc (Obj.cells t.cs.toArray 27)) w.heap.size 27 t.cs.toArray:=At.new _ _ _
  have hB:Below w.heap.size w (w.alloc (Obj.cells t.cs.toArray 27)):=(Below.refl _ _).alloc (Nat.le_refl _) _
  have hS1:1≤sz (k+1) t:=sz_pos hf
  have hcs:12*sz (k+1) t≤cst (sz (k+1) t) (k+1):=by unfold cst;omega
  obtain ⟨c0,c5,c6,c7,c8⟩:=At.tr_cell hA
  have HL:=Lib.hid (bLook S g kb n rest t.neg (S.next h hB) hc (hb.next hB) hgF ⟨hld.1,hld.2.1⟩ (by omega))
  have HB:=Lib.hid hB
  have HLd:=Lib.hid hld
  have HK:=Lib.hid (And.intro hk hkd)
  have HNg:=Lib.hid hneg
  have HS1:=Lib.hid hS1
  have HCs:=Lib.hid hcs
  have d0:=(int_ne (show ¬t.kind=0 by omega)).1
  have d1:=(int_ne (show ¬t.kind=1 by omega)).1
  have d2:=(int_ne (show ¬t.kind=2 by omega)).1
  have d3:=(int_ne (show ¬t.kind=3 by omega)).1
  have d4:=(int_ne (show ¬t.kind=4 by omega)).1
  have d5:=(int_ne (show ¬t.kind=5 by omega)).1
  have d6:=(int_ne (show ¬t.kind=6 by omega)).1
  have d7:=(int_ne (show ¬t.kind=7 by omega)).1
  clear h hc hb hgF hf hfo hkd hneg hld hA hB hS1 hcs hk hroom c5 c6 c7
  go_enter Tryz.func42,Tryz.ntmps42
  go_wp2_with fail
  refine HL.out.mono ?_
  rintro e w2 ⟨r,more,F',rfl,g1,g2,g3,g4,g5,gb,g6⟩
  have HR:Hid (NodeR D ns (k+1) t more r):=Lib.hid (by
    have hk:kd (ns++more) r=8:=by unfold kd;rw[g6.1]
    refine ⟨wide_small (by omega) (by omega) (by omega) (by omega) HS1.out,tab_look g4 g5 g6.1 HK.out HNg.out HLd.out,?_⟩
    have h1:=g6.2
    have h2:=HCs.out
    have h3:=HS1.out
    omega)
  have HG:=Lib.hid (GrowsB.from (show GrowsB AA (w.alloc (Obj.cells t.cs.toArray 27)) a ns F g kb rest (NodeR D ns (k+1) t) (.returned (.int .i64 r)) w2 from ⟨r,more,F',rfl,g1,g2,g3,g4,g5,gb,HR.out⟩) HB.out)
  clear g1 g2 g3 g4 g5 gb g6
  go_wp2_with fail
  go_ret
  exact HG.out
theorem bNode (S:ArenaMap AA) (HTi:TimesIs D AA):∀k,NodeIs D AA k
  | 0=>fun t w a ns F g kb ks rest h hc hb hgF hs hf=>by cases hf
  | k+1=>fun t w a ns F g kb ks rest h hc hb hgF hs hf hl hz hroom=>by
    have IH:=@bNode S @HTi k
    have hfo:ownF t=true:=by
      have:(ownF t&&t.parts.all (formedS k))=true:=hf
      rw[Bool.and_eq_true] at this
      exact this.1
    have hkd:0≤t.kind∧t.kind≤11:=by
      unfold ownF at hfo
      exact (of_decide_eq_true hfo).1
    by_cases h8:8≤t.kind
    · exact bNodeLook S k t g kb ks rest h8 h hc hb hgF hf hl hroom
    have hks:t.kind=0∨t.kind=1∨t.kind=2∨t.kind=3∨t.kind=4∨t.kind=5∨t.kind=6∨t.kind=7:=by omega
    rcases hks with e | e | e | e | e | e | e | e
    · exact bNode0 S k t g kb ks rest e h hc hb hgF hs hf hl hz hroom
    · exact bNode1 S k t g kb ks rest e h hc hb hgF hs hf hl hz hroom
    · exact bNode2 S k t g kb ks rest e h hc hb hgF hs hf hl hz hroom
    · exact bNode3 S k @IH t g kb ks rest e h hc hb hgF hs hf hl hz hroom
    · exact bNode4 S k @IH t g kb ks rest e h hc hb hgF hs hf hl hz hroom
    · exact bNode5 S k @IH t g kb ks rest e h hc hb hgF hs hf hl hz hroom
    · exact bNode6 S k @IH t g kb ks rest e h hc hb hgF hs hf hl hz hroom
    · exact bNode7 S k @IH @HTi t g kb ks rest e h hc hb hgF hs hf hl hz hroom
end
end Go.Proofs.YtgmpfnfomgadeaaGreat
