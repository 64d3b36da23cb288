/- Joined: BlNodeB, BlNodeC. -/
import Derived.Test.YtgmpfnfomgadeaaGreatMbe
/- norm's builder: node, by kinds. -/
set_option linter.unusedSectionVars false
set_option linter.unusedSimpArgs false
set_option linter.unusedVariables false
set_option maxHeartbeats 16000000
set_option maxRecDepth 100000
namespace Go.Proofs.YtgmpfnfomgadeaaGreat
open Go.RowKit Go.Shelf
variable {D:List Nat→List Nat→Prop} {u:Value}
section
variable {AA:World→Value→List Nd→(Nat→Prop)→Prop}
def THere (t:Tr) (gp g b:Nat) (w:World):Prop:=w.cell? ⟨g,0,none⟩=some (.pointer (some ⟨gp,0,none⟩))∧w.cell? ⟨b,1,none⟩=some (.int .u64 t.set.w0)∧w.cell? ⟨b,2,none⟩=some (.int .u64 t.set.w1)∧w.cell? ⟨b,3,none⟩=some (.int .u64 t.set.w2)∧w.cell? ⟨b,4,none⟩=some (.int .u64 t.set.w3)∧w.cell? ⟨b,5,none⟩=some (.slice t.addr t.parts.length t.cap)∧w.cell? ⟨b,6,none⟩=some (.int .i64 t.lo)∧w.cell? ⟨b,7,none⟩=some (.int .i64 t.hi)
theorem there_off {t:Tr} {gp g:Nat} {w w2:World} {F:Nat→Prop} (hn:t.n=t.parts.length) (hF:∀b,F b→b<w.heap.size) (hg:g<w.heap.size) (ho:OffF (wg F g) (w.alloc (Obj.cells t.cs.toArray 27)) w2) (hc:w2.cell? ⟨g,0,none⟩=some (.pointer (some ⟨gp,0,none⟩))):THere t gp g w.heap.size w2:=by
  have hA:At w2 w.heap.size 27 t.cs.toArray:=(ho.block _ (by rw[World.size_alloc];omega) (fun z=>by
    rcases z with z | z
    · have:=hF _ z;omega
    · omega)).trans (At.new _ _ _)
  obtain ⟨c0,c5,c6,c7,c8⟩:=At.tr_cell hA
  obtain ⟨s1,s2,s3,s4⟩:=At.tr_set hA
  rw[hn] at c5
  exact ⟨hc,s1,s2,s3,s4,c5,c6,c7⟩
theorem bNode2 (S:ArenaMap AA) (k:Nat):NodeK D AA k 2:=by
  intro t w a ns F g kb ks rest hk h hc hb hgF hs hf hl hz hroom
  have hA:At (w.alloc (Obj.cells t.cs.toArray 27)) w.heap.size 27 t.cs.toArray:=At.new _ _ _
  have hB:Below w.heap.size w (w.alloc (Obj.cells t.cs.toArray 27)):=(Below.refl _ _).alloc (Nat.le_refl _) _
  have hS1:1≤sz (k+1) t:=sz_pos hf
  have hcs:12*sz (k+1) t≤cst (sz (k+1) t) (k+1):=by unfold cst;omega
  have hbW:BKs (w.alloc (Obj.cells t.cs.toArray 27)) g a F kb (ks++rest):=hb.next hB
  have cb:(w.alloc (Obj.cells t.cs.toArray 27)).cell? ⟨g,0,none⟩=some a:=hbW.cell
  have HI:=Lib.hid (hs w (OffF.refl _ w))
  have hgp:GoodP (fun p x=>GoodK D k p x) t.parts ks:=by unfold GoodK at hl;rwa [if_neg (by rw[hk];decide)] at hl
  obtain ⟨c0,c5,c6,c7,c8⟩:=At.tr_cell hA
  obtain ⟨s1,s2,s3,s4⟩:=At.tr_set hA
  rw[hk] at c0
  rw[HI.out.2.1.1] at c5
  obtain ⟨gp,rfl⟩:=S.ptr h
  have HA:=Lib.hid h
  have HC:=Lib.hid hc
  have HgF:=Lib.hid hgF
  have HS:=Lib.hid hs
  have HK:=Lib.hid hk
  have HZ:=Lib.hid hz
  have HFo:=Lib.hid hf
  have HLo:=Lib.hid hgp
  have HRoom:=Lib.hid hroom
  have HS1:=Lib.hid hS1
  have HCs:=Lib.hid hcs
  have HB:=Lib.hid hB
  have HBW:=Lib.hid hbW
  have HAt:=Lib.hid hA
  have hpl0:t.parts.length=0:=by
    have:=formed_own hf
    unfold ownF cntF at this
    have:=(of_decide_eq_true this).2.1
    rw[hk] at this
    simp at this
    first | omega | (rw[this];rfl) | simp[this]
  have hks:ks=[]:=by rw[List.eq_nil_of_length_eq_zero hpl0] at hgp;exact hgp
  subst hks
  rw[List.nil_append] at hb
  have HBr:=Lib.hid hb
  have HT:Hid (∀w2,OffF (wg F g) (w.alloc (Obj.cells t.cs.toArray 27)) w2→w2.cell? ⟨g,0,none⟩=some (.pointer (some ⟨gp,0,none⟩))→THere t gp g w.heap.size w2):=Lib.hid (fun w2 ho hc=>there_off HI.out.2.1.1 (S.low h) hb.lt ho hc)
  have hT:THere t gp g w.heap.size (w.alloc (Obj.cells t.cs.toArray 27)):=HT.out _ (OffF.refl _ _) hbW.cell
  have HN:Hid (∀W',Below (w.alloc (Obj.cells t.cs.toArray 27)).heap.size (w.alloc (Obj.cells t.cs.toArray 27)) W'→Calls Tryz.prog 54 #[.pointer (some ⟨gp,0,none⟩),.agg #[.int .u64 t.set.w0,.int .u64 t.set.w1,.int .u64 t.set.w2,.int .u64 t.set.w3]] W' (Grows AA (w.alloc (Obj.cells t.cs.toArray 27)) (.pointer (some ⟨gp,0,none⟩)) ns F (fun more r=>((t.set.list.length=0∧kd (ns++more) r=0)∨(t.set.list.length≠0∧ndAt (ns++more) r.toNat=⟨2,t.set,0,0,false⟩))∧more.length≤1))):=Lib.hid (fun W' hb=>(nBytes S.toArenaMid t.set (S.next (S.next h hB) hb) hc HI.out.1.1 (by omega)).mono (fun _ _ g=>(g.mono (fun more r q=>⟨q.1,q.2.1⟩)).from hb))
  (try clear hpl0);clear h hc hb hgF hs hf hgp hl hz hroom hS1 hcs hk hB hbW hA
  go_enter Tryz.func42,Tryz.ntmps42
  go_wp2_with fail
  refine wp_region_noPanic ?_
  refine wp_region_held_drew (S:=(fun w'=>THere t gp g w.heap.size w')) (by kernel_rfl) (by exact hT) (fun hHeld=>?_)
  refine wpAnyH_take (i:=0) (oi:=⟨some 23,_,_,_,_,_⟩) (v:=?_) rfl (by kernel_rfl) (by kernel_rfl) (by kernel_rfl) (fun _ _ _ h=>h) (Or.inl ⟨by rfl,?_⟩) (by exact hHeld) ?_
  rotate_left
  · (intro w hSw;(try dsimp only at hSw);go_simp;try (with_reducible rfl))
  simp only[Act.put,List.setIfInBounds_toArray,List.set_cons_zero,List.set_cons_succ]
  refine wpAnyH_take (i:=1) (oi:=⟨some 24,_,_,_,_,_⟩) (v:=?_) rfl (by kernel_rfl) (by kernel_rfl) (by kernel_rfl) (fun _ _ _ h=>h) (Or.inl ⟨by rfl,?_⟩) (by exact hHeld) ?_
  rotate_left
  · (intro w hSw;(try dsimp only at hSw);go_simp;try (with_reducible rfl))
  simp only[Act.put,List.setIfInBounds_toArray,List.set_cons_zero,List.set_cons_succ]
  refine wpAnyH_take (i:=2) (oi:=⟨some 25,_,_,_,_,_⟩) (v:=?_) rfl (by kernel_rfl) (by kernel_rfl) (by kernel_rfl) (fun _ _ _ h=>h) (Or.inl ⟨by rfl,?_⟩) (by exact hHeld) ?_
  rotate_left
  · (intro w hSw;(try dsimp only at hSw);go_simp;try (with_reducible rfl))
  simp only[Act.put,List.setIfInBounds_toArray,List.set_cons_zero,List.set_cons_succ]
  refine wpAnyH_take (i:=3) (oi:=⟨some 26,_,_,_,_,_⟩) (v:=?_) rfl (by kernel_rfl) (by kernel_rfl) (by kernel_rfl) (fun _ _ _ h=>h) (Or.inl ⟨by rfl,?_⟩) (by exact hHeld) ?_
  rotate_left
  · (intro w hSw;(try dsimp only at hSw);obtain ⟨q0,q1,q2,q3,q4,q5,q6,q7⟩:=hSw;go_simp;try (with_reducible rfl))
  simp only[Act.put,List.setIfInBounds_toArray,List.set_cons_zero,List.set_cons_succ]
  refine wpAnyH_take (i:=4) (oi:=⟨some 27,_,_,_,_,_⟩) (v:=?_) rfl (by kernel_rfl) (by kernel_rfl) (by kernel_rfl) (fun _ _ _ h=>h) (Or.inl ⟨by rfl,?_⟩) (by exact hHeld) ?_
  rotate_left
  · (intro w hSw;(try dsimp only at hSw);go_simp;try (with_reducible rfl))
  simp only[Act.put,List.setIfInBounds_toArray,List.set_cons_zero,List.set_cons_succ]
  refine wpAnyH_take (i:=5) (oi:=⟨some 28,_,_,_,_,_⟩) (v:=?_) rfl (by kernel_rfl) (by kernel_rfl) (by kernel_rfl) (fun _ _ _ h=>h) (Or.inl ⟨by rfl,?_⟩) (by exact hHeld) ?_
  rotate_left
  · (intro w hSw;(try dsimp only at hSw);obtain ⟨q0,q1,q2,q3,q4,q5,q6,q7⟩:=hSw;go_simp;try (with_reducible rfl))
  simp only[Act.put,List.setIfInBounds_toArray,List.set_cons_zero,List.set_cons_succ]
  refine wpAnyH_ready (rs:=[6]) (by kernel_rfl) (by simp) ?_
  refine AllReadyH.cons (o:=⟨some 29,_,_,_,_,_⟩) rfl (fun K hK=>?_) AllReadyH.nil
  go_simp
  ((with_reducible refine (HN.out _ (Below.refl _ _).drew).mono ?_))
  rintro e w2 ⟨r,more,F',rfl,g1,g2,g3,g4,g5,g6⟩
  have HR:Hid (NodeR D ns (k+1) t more r):=Lib.hid (by
    have e:(fun l=>spansS l (k+1) t)=fun l=>byteF t.set l:=by funext l;show (if _ then _ else _)=_;simp[HK.out]
    unfold NodeR
    rw[e]
    have hkd:kd (ns++more) r=0∨kd (ns++more) r=2:=by
      rcases g6.1 with ⟨_,z⟩ | ⟨_,z⟩
      · exact Or.inl z
      · exact Or.inr (byte_kind z)
    exact ⟨wide_small (by omega) (by omega) (by omega) (by omega) HS1.out,tab_bytes g4 g5 g6.1,by have:=g6.2;have:=HCs.out;have:=HS1.out;omega⟩)
  have HG:=Lib.hid (GrowsB.of (show Grows AA (w.alloc (Obj.cells t.cs.toArray 27)) (.pointer (some ⟨gp,0,none⟩)) ns F (NodeR D ns (k+1) t) (.returned (.int .i64 r)) w2 from ⟨r,more,F',rfl,g1,g2,g3,g4,g5,HR.out⟩) HB.out HBr.out HgF.out)
  have hT:THere t gp g w.heap.size w2:=HT.out _ (g3.wg g) (BKs.cell (HBW.out.off HgF.out g3 g2))
  clear g1 g2 g3 g4 g5 g6
  dsimp only
  refine hK.out _ _ ?_ (fun hHeld=>?_)
  · exact hT
  clear hK K
  try simp only[Act.put,List.setIfInBounds_toArray,List.set_cons_zero,List.set_cons_succ]
  refine wpAnyH_take (i:=7) (oi:=⟨some 4,_,_,_,_,_⟩) (v:=?_) rfl (by kernel_rfl) (by kernel_rfl) (by kernel_rfl) (fun _ _ _ h=>h) (Or.inl ⟨by rfl,?_⟩) (by exact hHeld) ?_
  rotate_left
  · (intro w hSw;(try dsimp only at hSw);go_simp;try (with_reducible rfl))
  simp only[Act.put,List.setIfInBounds_toArray,List.set_cons_zero,List.set_cons_succ]
  refine wpAnyH_done (by kernel_rfl) ?_ _
  refine NoPanic.normal ?_
  go_wp2_with fail
  go_ret
  exact HG.out
end
end Go.Proofs.YtgmpfnfomgadeaaGreat

/- norm's builder: node, by kinds. -/
set_option linter.unusedSectionVars false
set_option linter.unusedSimpArgs false
set_option linter.unusedVariables false
set_option maxHeartbeats 16000000
set_option maxRecDepth 100000
namespace Go.Proofs.YtgmpfnfomgadeaaGreat
open Go.RowKit Go.Shelf
variable {D:List Nat→List Nat→Prop} {u:Value}
section
variable {AA:World→Value→List Nd→(Nat→Prop)→Prop}
theorem bNode3 (S:ArenaMap AA) (k:Nat) (IH:NodeIs D AA k):NodeK D AA k 3:=by
  intro t w a ns F g kb ks rest hk h hc hb hgF hs hf hl hz hroom
  have hA:At (w.alloc (Obj.cells t.cs.toArray 27)) w.heap.size 27 t.cs.toArray:=At.new _ _ _
  have hB:Below w.heap.size w (w.alloc (Obj.cells t.cs.toArray 27)):=(Below.refl _ _).alloc (Nat.le_refl _) _
  have hS1:1≤sz (k+1) t:=sz_pos hf
  have hcs:12*sz (k+1) t≤cst (sz (k+1) t) (k+1):=by unfold cst;omega
  have hbW:BKs (w.alloc (Obj.cells t.cs.toArray 27)) g a F kb (ks++rest):=hb.next hB
  have cb:(w.alloc (Obj.cells t.cs.toArray 27)).cell? ⟨g,0,none⟩=some a:=hbW.cell
  have HI:=Lib.hid (hs w (OffF.refl _ w))
  have hgp:GoodP (fun p x=>GoodK D k p x) t.parts ks:=by unfold GoodK at hl;rwa [if_neg (by rw[hk];decide)] at hl
  obtain ⟨c0,c5,c6,c7,c8⟩:=At.tr_cell hA
  obtain ⟨s1,s2,s3,s4⟩:=At.tr_set hA
  rw[hk] at c0
  rw[HI.out.2.1.1] at c5
  obtain ⟨gp,rfl⟩:=S.ptr h
  have HA:=Lib.hid h
  have HC:=Lib.hid hc
  have HgF:=Lib.hid hgF
  have HS:=Lib.hid hs
  have HK:=Lib.hid hk
  have HZ:=Lib.hid hz
  have HFo:=Lib.hid hf
  have HLo:=Lib.hid hgp
  have HRoom:=Lib.hid hroom
  have HS1:=Lib.hid hS1
  have HCs:=Lib.hid hcs
  have HB:=Lib.hid hB
  have HBW:=Lib.hid hbW
  have HAt:=Lib.hid hA
  have HT:Hid (∀w2,OffF (wg F g) (w.alloc (Obj.cells t.cs.toArray 27)) w2→w2.cell? ⟨g,0,none⟩=some (.pointer (some ⟨gp,0,none⟩))→THere t gp g w.heap.size w2):=Lib.hid (fun w2 ho hc=>there_off HI.out.2.1.1 (S.low h) hb.lt ho hc)
  have hT:THere t gp g w.heap.size (w.alloc (Obj.cells t.cs.toArray 27)):=HT.out _ (OffF.refl _ _) hbW.cell
  have hsum:=sz_sum hz
  have hpl:sz (k+1) t=(t.parts.map (sz k)).sum+1:=sz_plain hz (by rw[hk];decide)
  have hfo:ownF t=true∧t.parts.all (formedS k)=true:=by
    have:(ownF t&&t.parts.all (formedS k))=true:=hf
    rw[Bool.and_eq_true] at this
    exact this
  have hfp:∀p∈t.parts,formedS k p=true:=fun p hp=>List.all_eq_true.1 hfo.2 p hp
  have hzp:∀p∈t.parts,sizeS k p≤150:=fun p hp=>by have h1:=sz_mem (k:=k) hp;have h2:=sz_int k p;omega
  have hnp:t.parts.length≤149:=by
    by_cases h0:0<t.parts.length
    · have h1:=sz_others (k:=k) 0 h0 (fun p hp=>sz_pos (hfp p hp))
      have h2:=sz_pos (hfp _ (List.getElem_mem h0))
      omega
    · omega
  have hcp:cst ((t.parts.map (sz k)).sum) k+12+2*sz (k+1) t≤cst (sz (k+1) t) (k+1):=by
    rw[cst_succ,hpl,cst_add]
    have:12≤cst 1 k:=by unfold cst;omega
    omega
  have HNs:Hid (∀W',Below (w.alloc (Obj.cells t.cs.toArray 27)).heap.size (w.alloc (Obj.cells t.cs.toArray 27)) W'→Calls Tryz.prog 56 #[.pointer (some ⟨g,0,none⟩),.slice t.addr t.parts.length t.cap] W' fun e w'=>∃(v:Value) (xs:List Int) (more:List Nd) (F':Nat→Prop),e=.returned v∧IdRow w' W'.heap.size v xs∧(∀b,v.ownBlock=some b→¬F' b)∧AA w' (.pointer (some ⟨gp,0,none⟩)) (ns++more) F'∧(∀b,F' b→F b∨W'.heap.size≤b)∧OffF (wg F g) W' w'∧Canon (ns++more)∧BKs w' g (.pointer (some ⟨gp,0,none⟩)) F' kb rest∧AllR D (ns++more) k xs t.parts∧(∀i (h1:i<xs.length) (h2:i<t.parts.length),Wide (ns++more) (sz k t.parts[i]) xs[i])∧more.length≤cst ((t.parts.map (sz k)).sum) k):=Lib.hid (fun W' hb2=>bNodes S k IH t.addr t.cap t.parts g kb ks rest (S.next (S.next h hB) hb2) hc (hbW.next hb2) hgF (hs.parts.step ((OffF.of hB).then hb2) (fun b q=>Or.inl q)) hfp hgp hzp (by omega) (by omega))
  have HFp:=Lib.hid hfp
  have HSum:=Lib.hid hsum
  have HPl:=Lib.hid hpl
  have HNp:=Lib.hid hnp
  have HCp:=Lib.hid hcp
  clear hsum hpl hfo hfp hzp hnp hcp
  (try clear hpl0);clear h hc hb hgF hs hf hgp hl hz hroom hS1 hcs hk hB hbW hA
  have HIH:=Lib.hid IH
  clear IH hT
  go_enter Tryz.func42,Tryz.ntmps42
  go_wp2_with fail
  refine (HNs.out _ (Below.refl _ _)).mono ?_
  rintro e w2 ⟨v,xs,more,F',rfl,n1,n2,n3,n4,n5,n6,nb,n7,n8,n9⟩
  obtain ⟨u2,hba2,hkr2⟩:=id nb
  have HB2:=Lib.hid hba2
  have HNb:=Lib.hid nb
  clear hba2 hkr2 nb
  have HgF2:Hid (¬F' g):=Lib.hid (fun z=>by
    rcases n4 _ z with z | z
    · exact HgF.out z
    · have:=HBW.out.lt;omega)
  have hsum:(xs.map (catN (ns++more))).sum≤(t.parts.map (sz k)).sum:=sum_pair n7.1 (fun i h1 h2=>(n8 i h1 h2).1.1)
  have hxl:=n7.1
  have hM:∀x∈xs,catN (ns++more) x≤150-t.parts.length:=fun x hx=>by
    obtain ⟨i,hi,rfl⟩:=List.getElem_of_mem hx
    have h1:=(n8 i hi (by omega)).1.1
    have h2:=sz_others (k:=k) i (show i<t.parts.length by omega) (fun p hp=>sz_pos (HFp.out p hp))
    have h3:=HSum.out
    omega
  have hfi:=fifth t.parts.length (by have:=HNp.out;omega)
  have HCt:Hid (Calls Tryz.prog 55 #[.pointer (some ⟨g,0,none⟩),v] w2 (Grows AA w2 (.pointer (some ⟨gp,0,none⟩)) (ns++more) F' fun more2 r=>CatW ((ns++more)++more2) xs r∧more2.length≤(xs.map (catN (ns++more))).sum+1)):=Lib.hid (by
    by_cases h0:0<xs.length
    · exact (bCat S g (150-t.parts.length) xs n3 n6 HB2.out HgF2.out n1 h0 n2 n7.2.1 hM (by rw[hxl,List.length_append];have:=HRoom.out;have:=HCp.out;omega) (by have:=HNp.out;omega)).mono (fun _ _ q=>q.mono (fun _ _ z=>⟨z.1,by omega⟩))
    · obtain rfl:xs=[]:=List.eq_nil_of_length_eq_zero (by omega)
      obtain ⟨A,c,ev⟩:=n1.len
      subst ev
      exact bCat0 S g A c n3 n6 HB2.out (by rw[List.length_append];have:=HRoom.out;have:=HCp.out;omega))
  have HW1:=Lib.hid n4
  have HW2:=Lib.hid n5
  have HW3:=Lib.hid n6
  have HW4:=Lib.hid n7
  have HW5:=Lib.hid n8
  have HW6:=Lib.hid n9
  have HSm:=Lib.hid hsum
  clear n1 n2 n3 n4 n5 n6 n7 n8 n9 hsum hM hfi
  go_wp2_with fail
  refine HCt.out.mono ?_
  rintro e w3 ⟨r,more2,F2,rfl,g1,g2,g3,g4,g5,g6⟩
  have HG:Hid (GrowsB AA w (.pointer (some ⟨gp,0,none⟩)) ns F g kb rest (NodeR D ns (k+1) t) (.returned (.int .i64 r)) w3):=Lib.hid (GrowsB.from (w1:=(w.alloc (Obj.cells t.cs.toArray 27))) (by
    refine ⟨r,more++more2,F2,rfl,by rw[←List.append_assoc];exact g1,fun b z=>?_,HW2.out.off (g3.wg g) (wg_low HW1.out),by rw[←List.append_assoc];exact g4,by rw[←List.append_assoc];exact g5,HNb.out.off HgF2.out g3 g2,?_⟩
    · rcases g2 b z with z | z
      · exact HW1.out b z
      · exact Or.inr (Nat.le_trans HW2.out.size z)
    · have e:(fun l=>spansS l (k+1) t)=(fun l=>(t.parts.map (spansS l k)).foldl (fun f g=>thenF f g (l.length+1)) eqF):=by funext l;show (if _ then _ else _)=_;simp[HK.out]
      unfold NodeR
      rw[e,←List.append_assoc]
      have hpl:=HPl.out
      have hsm:=HSm.out
      refine ⟨wide_catL g6.1 (fun x hx=>?_) ?_ HS1.out,tab_cat g4 g6.1.1 (HW4.out.up more2),?_⟩
      · obtain ⟨i,hi,rfl⟩:=List.getElem_of_mem hx
        have h1:=HW4.out.1
        have h2:=sz_mem (k:=k) (List.getElem_mem (show i<t.parts.length by omega))
        exact ((HW5.out i hi (by omega)).up HW3.out.fine more2 (HW4.out.2.1 _ hx)).mono (by omega)
      · have e2:xs.map (catN ((ns++more)++more2))=xs.map (catN (ns++more)):=List.map_congr_left (fun x hx=>catN_up HW3.out.fine more2 (HW4.out.2.1 x hx))
        rw[e2];omega
      · rw[List.length_append]
        have h1:=HCp.out
        have h2:=HW6.out
        have h3:=g6.2
        omega) HB.out)
  clear g1 g2 g3 g4 g5 g6
  go_wp2_with fail
  go_ret
  exact HG.out
end
end Go.Proofs.YtgmpfnfomgadeaaGreat
