/- Joined: BlNodeD, BlNodeE. -/
import Derived.Test.YtgmpfnfomgadeaaGreatMbf
import Derived.Test.YtgmpfnfomgadeaaGreatMbe
/- norm's builder: node, by kinds. -/
set_option linter.unusedSectionVars false
set_option linter.unusedSimpArgs false
set_option linter.unusedVariables false
set_option maxHeartbeats 16000000
set_option maxRecDepth 100000
namespace Go.Proofs.YtgmpfnfomgadeaaGreat
open Go.RowKit Go.Shelf
variable {D:List Nat→List Nat→Prop} {u:Value}
section
variable {AA:World→Value→List Nd→(Nat→Prop)→Prop}
theorem bNode4 (S:ArenaMap AA) (k:Nat) (IH:NodeIs D AA k):NodeK D AA k 4:=by
  intro t w a ns F g kb ks rest hk h hc hb hgF hs hf hl hz hroom
  have hA:At (w.alloc (Obj.cells t.cs.toArray 27)) w.heap.size 27 t.cs.toArray:=At.new _ _ _
  have hB:Below w.heap.size w (w.alloc (Obj.cells t.cs.toArray 27)):=(Below.refl _ _).alloc (Nat.le_refl _) _
  have hS1:1≤sz (k+1) t:=sz_pos hf
  have hcs:12*sz (k+1) t≤cst (sz (k+1) t) (k+1):=by unfold cst;omega
  have hbW:BKs (w.alloc (Obj.cells t.cs.toArray 27)) g a F kb (ks++rest):=hb.next hB
  have cb:(w.alloc (Obj.cells t.cs.toArray 27)).cell? ⟨g,0,none⟩=some a:=hbW.cell
  have HI:=Lib.hid (hs w (OffF.refl _ w))
  have hgp:GoodP (fun p x=>GoodK D k p x) t.parts ks:=by unfold GoodK at hl;rwa [if_neg (by rw[hk];decide)] at hl
  obtain ⟨c0,c5,c6,c7,c8⟩:=At.tr_cell hA
  obtain ⟨s1,s2,s3,s4⟩:=At.tr_set hA
  rw[hk] at c0
  rw[HI.out.2.1.1] at c5
  obtain ⟨gp,rfl⟩:=S.ptr h
  have HA:=Lib.hid h
  have HC:=Lib.hid hc
  have HgF:=Lib.hid hgF
  have HS:=Lib.hid hs
  have HK:=Lib.hid hk
  have HZ:=Lib.hid hz
  have HFo:=Lib.hid hf
  have HLo:=Lib.hid hgp
  have HRoom:=Lib.hid hroom
  have HS1:=Lib.hid hS1
  have HCs:=Lib.hid hcs
  have HB:=Lib.hid hB
  have HBW:=Lib.hid hbW
  have HAt:=Lib.hid hA
  have HT:Hid (∀w2,OffF (wg F g) (w.alloc (Obj.cells t.cs.toArray 27)) w2→w2.cell? ⟨g,0,none⟩=some (.pointer (some ⟨gp,0,none⟩))→THere t gp g w.heap.size w2):=Lib.hid (fun w2 ho hc=>there_off HI.out.2.1.1 (S.low h) hb.lt ho hc)
  have hT:THere t gp g w.heap.size (w.alloc (Obj.cells t.cs.toArray 27)):=HT.out _ (OffF.refl _ _) hbW.cell
  have hsum:=sz_sum hz
  have hpl:sz (k+1) t=(t.parts.map (sz k)).sum+1:=sz_plain hz (by rw[hk];decide)
  have hfo:ownF t=true∧t.parts.all (formedS k)=true:=by
    have:(ownF t&&t.parts.all (formedS k))=true:=hf
    rw[Bool.and_eq_true] at this
    exact this
  have hfp:∀p∈t.parts,formedS k p=true:=fun p hp=>List.all_eq_true.1 hfo.2 p hp
  have hzp:∀p∈t.parts,sizeS k p≤150:=fun p hp=>by have h1:=sz_mem (k:=k) hp;have h2:=sz_int k p;omega
  have hnp:t.parts.length≤149:=by
    by_cases h0:0<t.parts.length
    · have h1:=sz_others (k:=k) 0 h0 (fun p hp=>sz_pos (hfp p hp))
      have h2:=sz_pos (hfp _ (List.getElem_mem h0))
      omega
    · omega
  have hcp:cst ((t.parts.map (sz k)).sum) k+12+2*sz (k+1) t≤cst (sz (k+1) t) (k+1):=by
    rw[cst_succ,hpl,cst_add]
    have:12≤cst 1 k:=by unfold cst;omega
    omega
  have HNs:Hid (∀W',Below (w.alloc (Obj.cells t.cs.toArray 27)).heap.size (w.alloc (Obj.cells t.cs.toArray 27)) W'→Calls Tryz.prog 56 #[.pointer (some ⟨g,0,none⟩),.slice t.addr t.parts.length t.cap] W' fun e w'=>∃(v:Value) (xs:List Int) (more:List Nd) (F':Nat→Prop),e=.returned v∧IdRow w' W'.heap.size v xs∧(∀b,v.ownBlock=some b→¬F' b)∧AA w' (.pointer (some ⟨gp,0,none⟩)) (ns++more) F'∧(∀b,F' b→F b∨W'.heap.size≤b)∧OffF (wg F g) W' w'∧Canon (ns++more)∧BKs w' g (.pointer (some ⟨gp,0,none⟩)) F' kb rest∧AllR D (ns++more) k xs t.parts∧(∀i (h1:i<xs.length) (h2:i<t.parts.length),Wide (ns++more) (sz k t.parts[i]) xs[i])∧more.length≤cst ((t.parts.map (sz k)).sum) k):=Lib.hid (fun W' hb2=>bNodes S k IH t.addr t.cap t.parts g kb ks rest (S.next (S.next h hB) hb2) hc (hbW.next hb2) hgF (hs.parts.step ((OffF.of hB).then hb2) (fun b q=>Or.inl q)) hfp hgp hzp (by omega) (by omega))
  have HFp:=Lib.hid hfp
  have HSum:=Lib.hid hsum
  have HPl:=Lib.hid hpl
  have HNp:=Lib.hid hnp
  have HCp:=Lib.hid hcp
  clear hsum hpl hfo hfp hzp hnp hcp
  (try clear hpl0);clear h hc hb hgF hs hf hgp hl hz hroom hS1 hcs hk hB hbW hA
  clear IH
  go_enter Tryz.func42,Tryz.ntmps42
  go_wp2_with fail
  refine wp_region_noPanic ?_
  refine wp_region_held_drew (S:=(fun w'=>THere t gp g w.heap.size w')) (by kernel_rfl) (by exact hT) (fun hHeld=>?_)
  refine wpAnyH_take (i:=0) (oi:=⟨some 40,_,_,_,_,_⟩) (v:=?_) rfl (by kernel_rfl) (by kernel_rfl) (by kernel_rfl) (fun _ _ _ h=>h) (Or.inl ⟨by rfl,?_⟩) (by exact hHeld) ?_
  rotate_left
  · (intro w hSw;(try dsimp only at hSw);go_simp;try (with_reducible rfl))
  simp only[Act.put,List.setIfInBounds_toArray,List.set_cons_zero,List.set_cons_succ]
  refine wpAnyH_take (i:=1) (oi:=⟨some 41,_,_,_,_,_⟩) (v:=?_) rfl (by kernel_rfl) (by kernel_rfl) (by kernel_rfl) (fun _ _ _ h=>h) (Or.inl ⟨by rfl,?_⟩) (by exact hHeld) ?_
  rotate_left
  · (intro w hSw;(try dsimp only at hSw);go_simp;try (with_reducible rfl))
  simp only[Act.put,List.setIfInBounds_toArray,List.set_cons_zero,List.set_cons_succ]
  refine wpAnyH_take (i:=2) (oi:=⟨some 42,_,_,_,_,_⟩) (v:=?_) rfl (by kernel_rfl) (by kernel_rfl) (by kernel_rfl) (fun _ _ _ h=>h) (Or.inl ⟨by rfl,?_⟩) (by exact hHeld) ?_
  rotate_left
  · (intro w hSw;(try dsimp only at hSw);go_simp;try (with_reducible rfl))
  simp only[Act.put,List.setIfInBounds_toArray,List.set_cons_zero,List.set_cons_succ]
  refine wpAnyH_take (i:=3) (oi:=⟨some 43,_,_,_,_,_⟩) (v:=?_) rfl (by kernel_rfl) (by kernel_rfl) (by kernel_rfl) (fun _ _ _ h=>h) (Or.inl ⟨by rfl,?_⟩) (by exact hHeld) ?_
  rotate_left
  · (intro w hSw;(try dsimp only at hSw);obtain ⟨q0,q1,q2,q3,q4,q5,q6,q7⟩:=hSw;go_simp;try (with_reducible rfl))
  simp only[Act.put,List.setIfInBounds_toArray,List.set_cons_zero,List.set_cons_succ]
  refine wpAnyH_take (i:=4) (oi:=⟨some 44,_,_,_,_,_⟩) (v:=?_) rfl (by kernel_rfl) (by kernel_rfl) (by kernel_rfl) (fun _ _ _ h=>h) (Or.inl ⟨by rfl,?_⟩) (by exact hHeld) ?_
  rotate_left
  · (intro w hSw;(try dsimp only at hSw);go_simp;try (with_reducible rfl))
  simp only[Act.put,List.setIfInBounds_toArray,List.set_cons_zero,List.set_cons_succ]
  refine wpAnyH_take (i:=5) (oi:=⟨some 45,_,_,_,_,_⟩) (v:=?_) rfl (by kernel_rfl) (by kernel_rfl) (by kernel_rfl) (fun _ _ _ h=>h) (Or.inl ⟨by rfl,?_⟩) (by exact hHeld) ?_
  rotate_left
  · (intro w hSw;(try dsimp only at hSw);go_simp;try (with_reducible rfl))
  simp only[Act.put,List.setIfInBounds_toArray,List.set_cons_zero,List.set_cons_succ]
  refine wpAnyH_take (i:=6) (oi:=⟨some 46,_,_,_,_,_⟩) (v:=?_) rfl (by kernel_rfl) (by kernel_rfl) (by kernel_rfl) (fun _ _ _ h=>h) (Or.inl ⟨by rfl,?_⟩) (by exact hHeld) ?_
  rotate_left
  · (intro w hSw;(try dsimp only at hSw);obtain ⟨q0,q1,q2,q3,q4,q5,q6,q7⟩:=hSw;go_simp;try (with_reducible rfl))
  simp only[Act.put,List.setIfInBounds_toArray,List.set_cons_zero,List.set_cons_succ]
  refine wpAnyH_ready (rs:=[7]) (by kernel_rfl) (by simp) ?_
  refine AllReadyH.cons (o:=⟨some 47,_,_,_,_,_⟩) rfl (fun K hK=>?_) AllReadyH.nil
  go_simp
  ((with_reducible refine (HNs.out _ (Below.refl _ _).drew).mono ?_))
  rintro e w2 ⟨v,xs,more,F',rfl,n1,n2,n3,n4,n5,n6,nb,n7,n8,n9⟩
  have HNb:=Lib.hid nb
  have n5:OffF (wg F g) (w.alloc (Obj.cells t.cs.toArray 27)) w2:=⟨n5.os,n5.tape,n5.output,n5.size,n5.block⟩
  have n4:∀b,F' b→F b∨(w.alloc (Obj.cells t.cs.toArray 27)).heap.size≤b:=n4
  have HgF2:Hid (¬F' g):=Lib.hid (fun z=>by rcases n4 _ z with z | z;exact HgF.out z;have:=HBW.out.lt;omega)
  have hT:THere t gp g w.heap.size w2:=HT.out _ n5 nb.cell
  have hms:memN (ns++more) 4 xs≤(t.parts.map (sz k)).sum:=sum_pair n7.1 (fun i h1 h2=>(n8 i h1 h2).1.2.1)
  have HJ:=Lib.hid (nOr S xs n3 n6 n1.list n7.2.1 (by rw[List.length_append];have:=HRoom.out;have:=HCp.out;have:=HSum.out;omega))
  have HW1:=Lib.hid n4
  have HW2:=Lib.hid n5
  have HW3:=Lib.hid n6
  have HW4:=Lib.hid n7
  have HW5:=Lib.hid n8
  have HW6:=Lib.hid n9
  have HMs:=Lib.hid hms
  clear n1 n2 n3 n4 n5 n6 nb n7 n8 n9 hms
  dsimp only
  refine hK.out _ _ ?_ (fun hHeld=>?_)
  · exact hT
  clear hK K
  try simp only[Act.put,List.setIfInBounds_toArray,List.set_cons_zero,List.set_cons_succ]
  refine wpAnyH_ready (rs:=[8]) (by kernel_rfl) (by simp) ?_
  refine AllReadyH.cons (o:=⟨some 48,_,_,_,_,_⟩) rfl (fun K hK=>?_) AllReadyH.nil
  go_simp
  ((with_reducible refine HJ.out.mono ?_))
  rintro e w3 ⟨r,more2,F2,rfl,g1,g2,g3,g4,g5,g6⟩
  have HG:Hid (GrowsB AA w (.pointer (some ⟨gp,0,none⟩)) ns F g kb rest (NodeR D ns (k+1) t) (.returned (.int .i64 r)) w3):=Lib.hid (GrowsB.from (w1:=(w.alloc (Obj.cells t.cs.toArray 27))) (by
    refine ⟨r,more++more2,F2,rfl,by rw[←List.append_assoc];exact g1,fun b z=>?_,HW2.out.off (g3.wg g) (wg_low HW1.out),by rw[←List.append_assoc];exact g4,by rw[←List.append_assoc];exact g5,HNb.out.off HgF2.out g3 g2,?_⟩
    · rcases g2 b z with z | z
      · exact HW1.out b z
      · exact Or.inr (Nat.le_trans HW2.out.size z)
    · have e:(fun l=>spansS l (k+1) t)=(fun l=>(t.parts.map (spansS l k)).foldl (fun f g i j=>f i j||g i j) noF):=by funext l;show (if _ then _ else _)=_;simp[HK.out]
      unfold NodeR
      rw[e,←List.append_assoc]
      have hpl:=HPl.out
      have hall:=HW4.out.up more2
      have hwd:∀i (h1:i<xs.length) (h2:i<t.parts.length),Wide ((ns++more)++more2) (sz k t.parts[i]) xs[i]:=fun i h1 h2=>(HW5.out i h1 h2).up HW3.out.fine more2 (HW4.out.2.1 _ (List.getElem_mem h1))
      have hm2:memN ((ns++more)++more2) 4 xs≤(t.parts.map (sz k)).sum:=sum_pair hall.1 (fun i h1 h2=>(hwd i h1 h2).1.2.1)
      refine ⟨wide_join g4 (Or.inl rfl) hall.2.1 g6.1 (fun x hx=>?_) (by omega) HS1.out,tab_or g4 g6.1 hall,?_⟩
      · obtain ⟨i,hi,rfl⟩:=List.getElem_of_mem hx
        have h1:=hall.1
        have h2:=sz_mem (k:=k) (List.getElem_mem (show i<t.parts.length by omega))
        exact (hwd i hi (by omega)).mono (by omega)
      · rw[List.length_append]
        have h1:=HCp.out
        have h2:=HW6.out
        have h3:=g6.2.1
        have h4:=HMs.out
        omega) HB.out)
  have hT:THere t gp g w.heap.size w3:=HT.out _ (HW2.out.off (g3.wg g) (wg_low HW1.out)) (HNb.out.off HgF2.out g3 g2).cell
  clear g1 g2 g3 g4 g5 g6
  dsimp only
  refine hK.out _ _ ?_ (fun hHeld=>?_)
  · exact hT
  clear hK K
  try simp only[Act.put,List.setIfInBounds_toArray,List.set_cons_zero,List.set_cons_succ]
  refine wpAnyH_take (i:=9) (oi:=⟨some 4,_,_,_,_,_⟩) (v:=?_) rfl (by kernel_rfl) (by kernel_rfl) (by kernel_rfl) (fun _ _ _ h=>h) (Or.inl ⟨by rfl,?_⟩) (by exact hHeld) ?_
  rotate_left
  · (intro w hSw;(try dsimp only at hSw);go_simp;try (with_reducible rfl))
  simp only[Act.put,List.setIfInBounds_toArray,List.set_cons_zero,List.set_cons_succ]
  refine wpAnyH_done (by kernel_rfl) ?_ _
  refine NoPanic.normal ?_
  go_wp2_with fail
  go_ret
  exact HG.out
theorem bNode5 (S:ArenaMap AA) (k:Nat) (IH:NodeIs D AA k):NodeK D AA k 5:=by
  intro t w a ns F g kb ks rest hk h hc hb hgF hs hf hl hz hroom
  have hA:At (w.alloc (Obj.cells t.cs.toArray 27)) w.heap.size 27 t.cs.toArray:=At.new _ _ _
  have hB:Below w.heap.size w (w.alloc (Obj.cells t.cs.toArray 27)):=(Below.refl _ _).alloc (Nat.le_refl _) _
  have hS1:1≤sz (k+1) t:=sz_pos hf
  have hcs:12*sz (k+1) t≤cst (sz (k+1) t) (k+1):=by unfold cst;omega
  have hbW:BKs (w.alloc (Obj.cells t.cs.toArray 27)) g a F kb (ks++rest):=hb.next hB
  have cb:(w.alloc (Obj.cells t.cs.toArray 27)).cell? ⟨g,0,none⟩=some a:=hbW.cell
  have HI:=Lib.hid (hs w (OffF.refl _ w))
  have hgp:GoodP (fun p x=>GoodK D k p x) t.parts ks:=by unfold GoodK at hl;rwa [if_neg (by rw[hk];decide)] at hl
  obtain ⟨c0,c5,c6,c7,c8⟩:=At.tr_cell hA
  obtain ⟨s1,s2,s3,s4⟩:=At.tr_set hA
  rw[hk] at c0
  rw[HI.out.2.1.1] at c5
  obtain ⟨gp,rfl⟩:=S.ptr h
  have HA:=Lib.hid h
  have HC:=Lib.hid hc
  have HgF:=Lib.hid hgF
  have HS:=Lib.hid hs
  have HK:=Lib.hid hk
  have HZ:=Lib.hid hz
  have HFo:=Lib.hid hf
  have HLo:=Lib.hid hgp
  have HRoom:=Lib.hid hroom
  have HS1:=Lib.hid hS1
  have HCs:=Lib.hid hcs
  have HB:=Lib.hid hB
  have HBW:=Lib.hid hbW
  have HAt:=Lib.hid hA
  have HT:Hid (∀w2,OffF (wg F g) (w.alloc (Obj.cells t.cs.toArray 27)) w2→w2.cell? ⟨g,0,none⟩=some (.pointer (some ⟨gp,0,none⟩))→THere t gp g w.heap.size w2):=Lib.hid (fun w2 ho hc=>there_off HI.out.2.1.1 (S.low h) hb.lt ho hc)
  have hT:THere t gp g w.heap.size (w.alloc (Obj.cells t.cs.toArray 27)):=HT.out _ (OffF.refl _ _) hbW.cell
  have hsum:=sz_sum hz
  have hpl:sz (k+1) t=(t.parts.map (sz k)).sum+1:=sz_plain hz (by rw[hk];decide)
  have hfo:ownF t=true∧t.parts.all (formedS k)=true:=by
    have:(ownF t&&t.parts.all (formedS k))=true:=hf
    rw[Bool.and_eq_true] at this
    exact this
  have hfp:∀p∈t.parts,formedS k p=true:=fun p hp=>List.all_eq_true.1 hfo.2 p hp
  have hzp:∀p∈t.parts,sizeS k p≤150:=fun p hp=>by have h1:=sz_mem (k:=k) hp;have h2:=sz_int k p;omega
  have hnp:t.parts.length≤149:=by
    by_cases h0:0<t.parts.length
    · have h1:=sz_others (k:=k) 0 h0 (fun p hp=>sz_pos (hfp p hp))
      have h2:=sz_pos (hfp _ (List.getElem_mem h0))
      omega
    · omega
  have hcp:cst ((t.parts.map (sz k)).sum) k+12+2*sz (k+1) t≤cst (sz (k+1) t) (k+1):=by
    rw[cst_succ,hpl,cst_add]
    have:12≤cst 1 k:=by unfold cst;omega
    omega
  have HNs:Hid (∀W',Below (w.alloc (Obj.cells t.cs.toArray 27)).heap.size (w.alloc (Obj.cells t.cs.toArray 27)) W'→Calls Tryz.prog 56 #[.pointer (some ⟨g,0,none⟩),.slice t.addr t.parts.length t.cap] W' fun e w'=>∃(v:Value) (xs:List Int) (more:List Nd) (F':Nat→Prop),e=.returned v∧IdRow w' W'.heap.size v xs∧(∀b,v.ownBlock=some b→¬F' b)∧AA w' (.pointer (some ⟨gp,0,none⟩)) (ns++more) F'∧(∀b,F' b→F b∨W'.heap.size≤b)∧OffF (wg F g) W' w'∧Canon (ns++more)∧BKs w' g (.pointer (some ⟨gp,0,none⟩)) F' kb rest∧AllR D (ns++more) k xs t.parts∧(∀i (h1:i<xs.length) (h2:i<t.parts.length),Wide (ns++more) (sz k t.parts[i]) xs[i])∧more.length≤cst ((t.parts.map (sz k)).sum) k):=Lib.hid (fun W' hb2=>bNodes S k IH t.addr t.cap t.parts g kb ks rest (S.next (S.next h hB) hb2) hc (hbW.next hb2) hgF (hs.parts.step ((OffF.of hB).then hb2) (fun b q=>Or.inl q)) hfp hgp hzp (by omega) (by omega))
  have HFp:=Lib.hid hfp
  have HSum:=Lib.hid hsum
  have HPl:=Lib.hid hpl
  have HNp:=Lib.hid hnp
  have HCp:=Lib.hid hcp
  clear hsum hpl hfo hfp hzp hnp hcp
  (try clear hpl0);clear h hc hb hgF hs hf hgp hl hz hroom hS1 hcs hk hB hbW hA
  clear IH
  go_enter Tryz.func42,Tryz.ntmps42
  go_wp2_with fail
  refine wp_region_noPanic ?_
  refine wp_region_held_drew (S:=(fun w'=>THere t gp g w.heap.size w')) (by kernel_rfl) (by exact hT) (fun hHeld=>?_)
  refine wpAnyH_take (i:=0) (oi:=⟨some 51,_,_,_,_,_⟩) (v:=?_) rfl (by kernel_rfl) (by kernel_rfl) (by kernel_rfl) (fun _ _ _ h=>h) (Or.inl ⟨by rfl,?_⟩) (by exact hHeld) ?_
  rotate_left
  · (intro w hSw;(try dsimp only at hSw);go_simp;try (with_reducible rfl))
  simp only[Act.put,List.setIfInBounds_toArray,List.set_cons_zero,List.set_cons_succ]
  refine wpAnyH_take (i:=1) (oi:=⟨some 52,_,_,_,_,_⟩) (v:=?_) rfl (by kernel_rfl) (by kernel_rfl) (by kernel_rfl) (fun _ _ _ h=>h) (Or.inl ⟨by rfl,?_⟩) (by exact hHeld) ?_
  rotate_left
  · (intro w hSw;(try dsimp only at hSw);go_simp;try (with_reducible rfl))
  simp only[Act.put,List.setIfInBounds_toArray,List.set_cons_zero,List.set_cons_succ]
  refine wpAnyH_take (i:=2) (oi:=⟨some 53,_,_,_,_,_⟩) (v:=?_) rfl (by kernel_rfl) (by kernel_rfl) (by kernel_rfl) (fun _ _ _ h=>h) (Or.inl ⟨by rfl,?_⟩) (by exact hHeld) ?_
  rotate_left
  · (intro w hSw;(try dsimp only at hSw);go_simp;try (with_reducible rfl))
  simp only[Act.put,List.setIfInBounds_toArray,List.set_cons_zero,List.set_cons_succ]
  refine wpAnyH_take (i:=3) (oi:=⟨some 54,_,_,_,_,_⟩) (v:=?_) rfl (by kernel_rfl) (by kernel_rfl) (by kernel_rfl) (fun _ _ _ h=>h) (Or.inl ⟨by rfl,?_⟩) (by exact hHeld) ?_
  rotate_left
  · (intro w hSw;(try dsimp only at hSw);obtain ⟨q0,q1,q2,q3,q4,q5,q6,q7⟩:=hSw;go_simp;try (with_reducible rfl))
  simp only[Act.put,List.setIfInBounds_toArray,List.set_cons_zero,List.set_cons_succ]
  refine wpAnyH_take (i:=4) (oi:=⟨some 55,_,_,_,_,_⟩) (v:=?_) rfl (by kernel_rfl) (by kernel_rfl) (by kernel_rfl) (fun _ _ _ h=>h) (Or.inl ⟨by rfl,?_⟩) (by exact hHeld) ?_
  rotate_left
  · (intro w hSw;(try dsimp only at hSw);go_simp;try (with_reducible rfl))
  simp only[Act.put,List.setIfInBounds_toArray,List.set_cons_zero,List.set_cons_succ]
  refine wpAnyH_take (i:=5) (oi:=⟨some 56,_,_,_,_,_⟩) (v:=?_) rfl (by kernel_rfl) (by kernel_rfl) (by kernel_rfl) (fun _ _ _ h=>h) (Or.inl ⟨by rfl,?_⟩) (by exact hHeld) ?_
  rotate_left
  · (intro w hSw;(try dsimp only at hSw);go_simp;try (with_reducible rfl))
  simp only[Act.put,List.setIfInBounds_toArray,List.set_cons_zero,List.set_cons_succ]
  refine wpAnyH_take (i:=6) (oi:=⟨some 57,_,_,_,_,_⟩) (v:=?_) rfl (by kernel_rfl) (by kernel_rfl) (by kernel_rfl) (fun _ _ _ h=>h) (Or.inl ⟨by rfl,?_⟩) (by exact hHeld) ?_
  rotate_left
  · (intro w hSw;(try dsimp only at hSw);obtain ⟨q0,q1,q2,q3,q4,q5,q6,q7⟩:=hSw;go_simp;try (with_reducible rfl))
  simp only[Act.put,List.setIfInBounds_toArray,List.set_cons_zero,List.set_cons_succ]
  refine wpAnyH_ready (rs:=[7]) (by kernel_rfl) (by simp) ?_
  refine AllReadyH.cons (o:=⟨some 58,_,_,_,_,_⟩) rfl (fun K hK=>?_) AllReadyH.nil
  go_simp
  ((with_reducible refine (HNs.out _ (Below.refl _ _).drew).mono ?_))
  rintro e w2 ⟨v,xs,more,F',rfl,n1,n2,n3,n4,n5,n6,nb,n7,n8,n9⟩
  have HNb:=Lib.hid nb
  have n5:OffF (wg F g) (w.alloc (Obj.cells t.cs.toArray 27)) w2:=⟨n5.os,n5.tape,n5.output,n5.size,n5.block⟩
  have n4:∀b,F' b→F b∨(w.alloc (Obj.cells t.cs.toArray 27)).heap.size≤b:=n4
  have HgF2:Hid (¬F' g):=Lib.hid (fun z=>by rcases n4 _ z with z | z;exact HgF.out z;have:=HBW.out.lt;omega)
  have hT:THere t gp g w.heap.size w2:=HT.out _ n5 nb.cell
  have hms:memN (ns++more) 5 xs≤(t.parts.map (sz k)).sum:=sum_pair n7.1 (fun i h1 h2=>(n8 i h1 h2).1.2.2)
  have HJ:=Lib.hid (nAnd S xs n3 n6 n1.list n7.2.1 (by rw[List.length_append];have:=HRoom.out;have:=HCp.out;have:=HSum.out;omega))
  have HW1:=Lib.hid n4
  have HW2:=Lib.hid n5
  have HW3:=Lib.hid n6
  have HW4:=Lib.hid n7
  have HW5:=Lib.hid n8
  have HW6:=Lib.hid n9
  have HMs:=Lib.hid hms
  clear n1 n2 n3 n4 n5 n6 nb n7 n8 n9 hms
  dsimp only
  refine hK.out _ _ ?_ (fun hHeld=>?_)
  · exact hT
  clear hK K
  try simp only[Act.put,List.setIfInBounds_toArray,List.set_cons_zero,List.set_cons_succ]
  refine wpAnyH_ready (rs:=[8]) (by kernel_rfl) (by simp) ?_
  refine AllReadyH.cons (o:=⟨some 59,_,_,_,_,_⟩) rfl (fun K hK=>?_) AllReadyH.nil
  go_simp
  ((with_reducible refine HJ.out.mono ?_))
  rintro e w3 ⟨r,more2,F2,rfl,g1,g2,g3,g4,g5,g6⟩
  have HG:Hid (GrowsB AA w (.pointer (some ⟨gp,0,none⟩)) ns F g kb rest (NodeR D ns (k+1) t) (.returned (.int .i64 r)) w3):=Lib.hid (GrowsB.from (w1:=(w.alloc (Obj.cells t.cs.toArray 27))) (by
    refine ⟨r,more++more2,F2,rfl,by rw[←List.append_assoc];exact g1,fun b z=>?_,HW2.out.off (g3.wg g) (wg_low HW1.out),by rw[←List.append_assoc];exact g4,by rw[←List.append_assoc];exact g5,HNb.out.off HgF2.out g3 g2,?_⟩
    · rcases g2 b z with z | z
      · exact HW1.out b z
      · exact Or.inr (Nat.le_trans HW2.out.size z)
    · have e:(fun l=>spansS l (k+1) t)=(fun l=>(t.parts.map (spansS l k)).foldl (fun f g i j=>f i j&&g i j) (otherF noF)):=by funext l;show (if _ then _ else _)=_;simp[HK.out]
      unfold NodeR
      rw[e,←List.append_assoc]
      have hpl:=HPl.out
      have hall:=HW4.out.up more2
      have hwd:∀i (h1:i<xs.length) (h2:i<t.parts.length),Wide ((ns++more)++more2) (sz k t.parts[i]) xs[i]:=fun i h1 h2=>(HW5.out i h1 h2).up HW3.out.fine more2 (HW4.out.2.1 _ (List.getElem_mem h1))
      have hm2:memN ((ns++more)++more2) 5 xs≤(t.parts.map (sz k)).sum:=sum_pair hall.1 (fun i h1 h2=>(hwd i h1 h2).1.2.2)
      refine ⟨wide_join g4 (Or.inr rfl) hall.2.1 g6.1 (fun x hx=>?_) (by omega) HS1.out,tab_and g4 g6.1 hall,?_⟩
      · obtain ⟨i,hi,rfl⟩:=List.getElem_of_mem hx
        have h1:=hall.1
        have h2:=sz_mem (k:=k) (List.getElem_mem (show i<t.parts.length by omega))
        exact (hwd i hi (by omega)).mono (by omega)
      · rw[List.length_append]
        have h1:=HCp.out
        have h2:=HW6.out
        have h3:=g6.2.1
        have h4:=HMs.out
        omega) HB.out)
  have hT:THere t gp g w.heap.size w3:=HT.out _ (HW2.out.off (g3.wg g) (wg_low HW1.out)) (HNb.out.off HgF2.out g3 g2).cell
  clear g1 g2 g3 g4 g5 g6
  dsimp only
  refine hK.out _ _ ?_ (fun hHeld=>?_)
  · exact hT
  clear hK K
  try simp only[Act.put,List.setIfInBounds_toArray,List.set_cons_zero,List.set_cons_succ]
  refine wpAnyH_take (i:=9) (oi:=⟨some 4,_,_,_,_,_⟩) (v:=?_) rfl (by kernel_rfl) (by kernel_rfl) (by kernel_rfl) (fun _ _ _ h=>h) (Or.inl ⟨by rfl,?_⟩) (by exact hHeld) ?_
  rotate_left
  · (intro w hSw;(try dsimp only at hSw);go_simp;try (with_reducible rfl))
  simp only[Act.put,List.setIfInBounds_toArray,List.set_cons_zero,List.set_cons_succ]
  refine wpAnyH_done (by kernel_rfl) ?_ _
  refine NoPanic.normal ?_
  go_wp2_with fail
  go_ret
  exact HG.out
end
end Go.Proofs.YtgmpfnfomgadeaaGreat

/- norm's builder: node, by kinds. -/
set_option linter.unusedSectionVars false
set_option linter.unusedSimpArgs false
set_option linter.unusedVariables false
set_option maxHeartbeats 16000000
set_option maxRecDepth 100000
namespace Go.Proofs.YtgmpfnfomgadeaaGreat
open Go.RowKit Go.Shelf
variable {D:List Nat→List Nat→Prop} {u:Value}
section
variable {AA:World→Value→List Nd→(Nat→Prop)→Prop}
theorem bNode6 (S:ArenaMap AA) (k:Nat) (IH:NodeIs D AA k):NodeK D AA k 6:=by
  intro t w a ns F g kb ks rest hk h hc hb hgF hs hf hl hz hroom
  have hA:At (w.alloc (Obj.cells t.cs.toArray 27)) w.heap.size 27 t.cs.toArray:=At.new _ _ _
  have hB:Below w.heap.size w (w.alloc (Obj.cells t.cs.toArray 27)):=(Below.refl _ _).alloc (Nat.le_refl _) _
  have hS1:1≤sz (k+1) t:=sz_pos hf
  have hcs:12*sz (k+1) t≤cst (sz (k+1) t) (k+1):=by unfold cst;omega
  have hbW:BKs (w.alloc (Obj.cells t.cs.toArray 27)) g a F kb (ks++rest):=hb.next hB
  have cb:(w.alloc (Obj.cells t.cs.toArray 27)).cell? ⟨g,0,none⟩=some a:=hbW.cell
  have HI:=Lib.hid (hs w (OffF.refl _ w))
  have hgp:GoodP (fun p x=>GoodK D k p x) t.parts ks:=by unfold GoodK at hl;rwa [if_neg (by rw[hk];decide)] at hl
  obtain ⟨c0,c5,c6,c7,c8⟩:=At.tr_cell hA
  obtain ⟨s1,s2,s3,s4⟩:=At.tr_set hA
  rw[hk] at c0
  rw[HI.out.2.1.1] at c5
  obtain ⟨gp,rfl⟩:=S.ptr h
  have HA:=Lib.hid h
  have HC:=Lib.hid hc
  have HgF:=Lib.hid hgF
  have HS:=Lib.hid hs
  have HK:=Lib.hid hk
  have HZ:=Lib.hid hz
  have HFo:=Lib.hid hf
  have HLo:=Lib.hid hgp
  have HRoom:=Lib.hid hroom
  have HS1:=Lib.hid hS1
  have HCs:=Lib.hid hcs
  have HB:=Lib.hid hB
  have HBW:=Lib.hid hbW
  have HAt:=Lib.hid hA
  have HT:Hid (∀w2,OffF (wg F g) (w.alloc (Obj.cells t.cs.toArray 27)) w2→w2.cell? ⟨g,0,none⟩=some (.pointer (some ⟨gp,0,none⟩))→THere t gp g w.heap.size w2):=Lib.hid (fun w2 ho hc=>there_off HI.out.2.1.1 (S.low h) hb.lt ho hc)
  have hT:THere t gp g w.heap.size (w.alloc (Obj.cells t.cs.toArray 27)):=HT.out _ (OffF.refl _ _) hbW.cell
  have hsum:=sz_sum hz
  have hpl:sz (k+1) t=(t.parts.map (sz k)).sum+1:=sz_plain hz (by rw[hk];decide)
  have hfo:ownF t=true∧t.parts.all (formedS k)=true:=by
    have:(ownF t&&t.parts.all (formedS k))=true:=hf
    rw[Bool.and_eq_true] at this
    exact this
  have hfp:∀p∈t.parts,formedS k p=true:=fun p hp=>List.all_eq_true.1 hfo.2 p hp
  have hzp:∀p∈t.parts,sizeS k p≤150:=fun p hp=>by have h1:=sz_mem (k:=k) hp;have h2:=sz_int k p;omega
  have hnp:t.parts.length≤149:=by
    by_cases h0:0<t.parts.length
    · have h1:=sz_others (k:=k) 0 h0 (fun p hp=>sz_pos (hfp p hp))
      have h2:=sz_pos (hfp _ (List.getElem_mem h0))
      omega
    · omega
  have hcp:cst ((t.parts.map (sz k)).sum) k+12+2*sz (k+1) t≤cst (sz (k+1) t) (k+1):=by
    rw[cst_succ,hpl,cst_add]
    have:12≤cst 1 k:=by unfold cst;omega
    omega
  have hln:t.parts.length=1:=by
    have:=hfo.1
    unfold ownF cntF at this
    have:=(of_decide_eq_true this).2.1
    rw[hk] at this
    simp at this
    omega
  obtain ⟨p,hp⟩:∃p,t.parts=[p]:=by
    match q:t.parts,hln with
    | [p],_=>exact ⟨p,rfl⟩
  have hsp:SafeP (wg F g) w k t.addr [p]:=by have:=hs.parts;rw[hp] at this;exact this
  obtain ⟨b,off,ha,hblt,hr⟩:=(hsp w (OffF.refl _ w)).1 (by simp)
  have HRg:Hid (∀w2,OffF (wg F g) (w.alloc (Obj.cells t.cs.toArray 27)) w2→w2.rangeAt b off p.cs):=Lib.hid (fun w2 ho=>by
    obtain ⟨b',off',ha',_,hr'⟩:=(hsp w2 ((OffF.of hB).off ho (fun b z=>Or.inl z))).1 (by simp)
    rw[ha] at ha'
    injection ha' with ha'
    injection ha' with e1 e2
    subst e1 e2
    have:=hr' 0 (by simp)
    simpa using this)
  have hR0:(w.alloc (Obj.cells t.cs.toArray 27)).rangeAt b off p.cs:=HRg.out _ (OffF.refl _ _)
  have hmp:p∈t.parts:=by rw[hp];simp
  have hszp:(t.parts.map (sz k)).sum=sz k p:=by rw[hp];simp
  have hgq:GoodK D k p ks:=by
    rw[hp] at hgp
    obtain ⟨x,y,rfl,h1,h2⟩:=hgp
    obtain rfl:y=[]:=h2
    rw[List.append_nil];exact h1
  have HNo:Hid (∀W',Below (w.alloc (Obj.cells t.cs.toArray 27)).heap.size (w.alloc (Obj.cells t.cs.toArray 27)) W'→Calls Tryz.prog 42 #[.pointer (some ⟨g,0,none⟩),.agg p.cs.toArray] W' (GrowsB AA (w.alloc (Obj.cells t.cs.toArray 27)) (.pointer (some ⟨gp,0,none⟩)) ns F g kb rest (NodeR D ns k p))):=Lib.hid (fun W' hb2=>(IH p g kb ks rest (S.next (S.next h hB) hb2) hc (hbW.next hb2) hgF ((hsp.part 0 (by simp)).step ((OffF.of hB).then hb2) (fun b q=>Or.inl q)) (hfp p hmp) hgq (hzp p hmp) (by rw[hszp] at hcp;omega)).mono (fun _ _ g=>g.from hb2))
  have hx1:1≤sz k p:=sz_pos (hfp p hmp)
  have HX1:=Lib.hid hx1
  have HP:=Lib.hid hp
  have HSz:=Lib.hid hszp
  have HSum:=Lib.hid hsum
  have HPl:=Lib.hid hpl
  have HCp:=Lib.hid hcp
  have hln1:=hln
  clear hsum hpl hfo hfp hzp hnp hcp
  clear hln hsp hblt hr hmp hszp hx1 hgq
  have hp1:=hp
  clear hp
  have hln:=hln1
  (try clear hpl0);clear h hc hb hgF hs hf hgp hl hz hroom hS1 hcs hk hB hbW hA
  clear IH hln1 c5 c6 c7 c8 s1 s2 s3 s4
  go_enter Tryz.func42,Tryz.ntmps42
  go_wp2_with fail
  refine wp_region_noPanic ?_
  refine wp_region_held_drew (S:=(fun w'=>THere t gp g w.heap.size w'∧w'.rangeAt b off p.cs)) (by kernel_rfl) (by exact ⟨hT,hR0⟩) (fun hHeld=>?_)
  refine wpAnyH_take (i:=0) (oi:=⟨some 62,_,_,_,_,_⟩) (v:=?_) rfl (by kernel_rfl) (by kernel_rfl) (by kernel_rfl) (fun _ _ _ h=>h) (Or.inl ⟨by rfl,?_⟩) (by exact hHeld) ?_
  rotate_left
  · (intro w hSw;(try dsimp only at hSw);go_simp;try (with_reducible rfl))
  simp only[Act.put,List.setIfInBounds_toArray,List.set_cons_zero,List.set_cons_succ]
  refine wpAnyH_take (i:=1) (oi:=⟨some 63,_,_,_,_,_⟩) (v:=?_) rfl (by kernel_rfl) (by kernel_rfl) (by kernel_rfl) (fun _ _ _ h=>h) (Or.inl ⟨by rfl,?_⟩) (by exact hHeld) ?_
  rotate_left
  · (intro w hSw;(try dsimp only at hSw);go_simp;try (with_reducible rfl))
  simp only[Act.put,List.setIfInBounds_toArray,List.set_cons_zero,List.set_cons_succ]
  refine wpAnyH_take (i:=2) (oi:=⟨some 64,_,_,_,_,_⟩) (v:=?_) rfl (by kernel_rfl) (by kernel_rfl) (by kernel_rfl) (fun _ _ _ h=>h) (Or.inl ⟨by rfl,?_⟩) (by exact hHeld) ?_
  rotate_left
  · (intro w hSw;(try dsimp only at hSw);go_simp;try (with_reducible rfl))
  simp only[Act.put,List.setIfInBounds_toArray,List.set_cons_zero,List.set_cons_succ]
  refine wpAnyH_take (i:=3) (oi:=⟨some 65,_,_,_,_,_⟩) (v:=?_) rfl (by kernel_rfl) (by kernel_rfl) (by kernel_rfl) (fun _ _ _ h=>h) (Or.inl ⟨by rfl,?_⟩) (by exact hHeld) ?_
  rotate_left
  · (intro w hSw;(try dsimp only at hSw);obtain ⟨⟨q0,q1,q2,q3,q4,q5,q6,q7⟩,q8⟩:=hSw;rw[ha,hln] at q5;go_simp;try (with_reducible rfl))
  simp only[Act.put,List.setIfInBounds_toArray,List.set_cons_zero,List.set_cons_succ]
  refine wpAnyH_take (i:=4) (oi:=⟨some 66,_,_,_,_,_⟩) (v:=?_) rfl (by kernel_rfl) (by kernel_rfl) (by kernel_rfl) (fun _ _ _ h=>h) (Or.inl ⟨by rfl,?_⟩) (by exact hHeld) ?_
  rotate_left
  · (intro w hSw;(try dsimp only at hSw);go_simp;try (with_reducible rfl))
  simp only[Act.put,List.setIfInBounds_toArray,List.set_cons_zero,List.set_cons_succ]
  refine wpAnyH_take (i:=5) (oi:=⟨some 67,_,_,_,_,_⟩) (v:=?_) rfl (by kernel_rfl) (by kernel_rfl) (by kernel_rfl) (fun _ _ _ h=>h) (Or.inl ⟨by rfl,?_⟩) (by exact hHeld) ?_
  rotate_left
  · (intro w hSw;(try dsimp only at hSw);go_simp;try (with_reducible rfl))
  simp only[Act.put,List.setIfInBounds_toArray,List.set_cons_zero,List.set_cons_succ]
  refine wpAnyH_take (i:=6) (oi:=⟨some 68,_,_,_,_,_⟩) (v:=?_) rfl (by kernel_rfl) (by kernel_rfl) (by kernel_rfl) (fun _ _ _ h=>h) (Or.inl ⟨by rfl,?_⟩) (by exact hHeld) ?_
  rotate_left
  · (intro w hSw;(try dsimp only at hSw);obtain ⟨⟨q0,q1,q2,q3,q4,q5,q6,q7⟩,q8⟩:=hSw;rw[ha,hln] at q5;go_simp;try (with_reducible rfl))
  simp only[Act.put,List.setIfInBounds_toArray,List.set_cons_zero,List.set_cons_succ]
  refine wpAnyH_take (i:=7) (oi:=⟨some 69,_,_,_,_,_⟩) (v:=?_) rfl (by kernel_rfl) (by kernel_rfl) (by kernel_rfl) (fun _ _ _ h=>h) (Or.inl ⟨by rfl,?_⟩) (by exact hHeld) ?_
  rotate_left
  · (intro w hSw;(try dsimp only at hSw);go_simp;try (with_reducible rfl))
  simp only[Act.put,List.setIfInBounds_toArray,List.set_cons_zero,List.set_cons_succ]
  refine wpAnyH_take (i:=8) (oi:=⟨some 70,_,_,_,_,_⟩) (v:=_) rfl (by kernel_rfl) (by kernel_rfl) (by kernel_rfl) (fun _ _ _ h=>h) (yieldsIf_load_mid (by rfl) 27 _ rfl b off rfl p.cs _ (fun _ h=>h.2) Tryz.underlying27 rfl (by rw[Tr.cs_length];kernel_rfl)) (by exact hHeld) ?_
  simp only[Act.put,List.setIfInBounds_toArray,List.set_cons_zero,List.set_cons_succ]
  refine wpAnyH_ready (rs:=[9]) (by kernel_rfl) (by simp) ?_
  refine AllReadyH.cons (o:=⟨some 71,_,_,_,_,_⟩) rfl (fun K hK=>?_) AllReadyH.nil
  go_simp
  ((with_reducible refine (HNo.out _ (Below.refl _ _).drew).mono ?_))
  rintro e w2 ⟨x,more,F',rfl,n3,n4,n5,n6,n7,nb,n8⟩
  have HgF2:Hid (¬F' g):=Lib.hid (fun z=>by rcases n4 _ z with z | z;exact HgF.out z;have:=HBW.out.lt;omega)
  have HNb:=Lib.hid nb
  obtain ⟨u2,hba2,hkr2⟩:=id nb
  clear hkr2
  have hT:THere t gp g w.heap.size w2:=HT.out _ n5 nb.cell
  have hR0:=HRg.out _ n5
  have HJ:=Lib.hid (nNot S.toArenaMid x n3 n6 n7 (by rw[List.length_append];have h1:=HRoom.out;have h2:=HCp.out;rw[HSz.out] at h2;have:=n8.2.2;omega))
  have HW1:=Lib.hid n4
  have HW2:=Lib.hid n5
  have HW3:=Lib.hid n6
  have HW4:=Lib.hid n7
  have HW5:=Lib.hid n8
  clear n3 n4 n5 n6 n7 nb hba2 n8
  dsimp only
  refine hK.out _ _ ?_ (fun hHeld=>?_)
  · exact ⟨hT,hR0⟩
  clear hK K
  try simp only[Act.put,List.setIfInBounds_toArray,List.set_cons_zero,List.set_cons_succ]
  refine wpAnyH_ready (rs:=[10]) (by kernel_rfl) (by simp) ?_
  refine AllReadyH.cons (o:=⟨some 72,_,_,_,_,_⟩) rfl (fun K hK=>?_) AllReadyH.nil
  go_simp
  ((with_reducible refine HJ.out.mono ?_))
  rintro e w3 ⟨r,more2,F2,rfl,g1,g2,g3,g4,g5,g6⟩
  have HG:Hid (GrowsB AA w (.pointer (some ⟨gp,0,none⟩)) ns F g kb rest (NodeR D ns (k+1) t) (.returned (.int .i64 r)) w3):=Lib.hid (GrowsB.from (w1:=(w.alloc (Obj.cells t.cs.toArray 27))) (by
    refine ⟨r,more++more2,F2,rfl,by rw[←List.append_assoc];exact g1,fun b z=>?_,HW2.out.off (g3.wg g) (wg_low HW1.out),by rw[←List.append_assoc];exact g4,by rw[←List.append_assoc];exact g5,HNb.out.off HgF2.out g3 g2,?_⟩
    · rcases g2 b z with z | z
      · exact HW1.out b z
      · exact Or.inr (Nat.le_trans HW2.out.size z)
    · have e:(fun l=>spansS l (k+1) t)=(fun l=>otherF (spansS l k p)):=by funext l;show (if _ then _ else _)=_;simp[HK.out,HP.out]
      unfold NodeR
      rw[e,←List.append_assoc]
      have hpl:=HPl.out
      have hsz:=HSz.out
      refine ⟨wide_not g4 (HW4.out.up more2) g6.1 ((HW5.out.1.up HW3.out.fine more2 HW4.out).mono (by omega)) HS1.out,tab_not g4 (HW4.out.up more2) g6.1 (HW5.out.2.1.up HW4.out more2),?_⟩
      rw[List.length_append]
      have h1:=HCp.out
      have h2:=HW5.out.2.2
      have h3:=g6.2.1
      rw[hsz] at h1
      omega) HB.out)
  have hT:THere t gp g w.heap.size w3:=HT.out _ (HW2.out.off (g3.wg g) (wg_low HW1.out)) (HNb.out.off HgF2.out g3 g2).cell
  have hR0:=HRg.out _ (HW2.out.off (g3.wg g) (wg_low HW1.out))
  clear g1 g2 g3 g4 g5 g6
  dsimp only
  refine hK.out _ _ ?_ (fun hHeld=>?_)
  · exact ⟨hT,hR0⟩
  clear hK K
  try simp only[Act.put,List.setIfInBounds_toArray,List.set_cons_zero,List.set_cons_succ]
  refine wpAnyH_take (i:=11) (oi:=⟨some 4,_,_,_,_,_⟩) (v:=?_) rfl (by kernel_rfl) (by kernel_rfl) (by kernel_rfl) (fun _ _ _ h=>h) (Or.inl ⟨by rfl,?_⟩) (by exact hHeld) ?_
  rotate_left
  · (intro w hSw;(try dsimp only at hSw);go_simp;try (with_reducible rfl))
  simp only[Act.put,List.setIfInBounds_toArray,List.set_cons_zero,List.set_cons_succ]
  refine wpAnyH_done (by kernel_rfl) ?_ _
  refine NoPanic.normal ?_
  go_wp2_with fail
  go_ret
  exact HG.out
end
end Go.Proofs.YtgmpfnfomgadeaaGreat
