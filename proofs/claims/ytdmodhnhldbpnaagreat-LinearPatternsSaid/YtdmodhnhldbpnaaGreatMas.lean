/- Joined: GlNodeA, GlNodeB, GlNodeC. -/
import Derived.Test.YtdmodhnhldbpnaaGreatMar
import Derived.Deep.QuietTactic
import Derived.Deep.RegionHeld3
import Derived.Test.YtdmodhnhldbpnaaGreatAid
/- norm's builder over any arena: node, by kinds. -/
set_option linter.unusedSectionVars false
set_option linter.unusedSimpArgs false
set_option linter.unusedVariables false
set_option maxHeartbeats 16000000
set_option maxRecDepth 100000
namespace Go.Proofs.YtdmodhnhldbpnaaGreat
section
open Go.RowKit Go.Shelf
variable {D:List Nat->List Nat->Prop} {u:Value}
section
variable {AA:World->Value->List Nd->(Nat->Prop)->Prop}
def zfY (D:List Nat->List Nat->Prop) (AA:World->Value->List Nd->(Nat->Prop)->Prop) (k:Nat) (K:Int):Prop:=∀(t:Tr) {w:World} {a:Value} {ns:List Nd} {F:Nat->Prop} (g kb:Nat) (ks rest:List Int),t.kind=K->AA w a ns F->BKs w g a F kb (ks++rest)->¬F g->zq0 (wg F g) w (k+1) t->zah (k+1) t=true->zbZ D (k+1) t ks->zam (k+1) t<=1000 ->
 Calls Tryz.prog 52 #[.pointer (some ⟨g,0,none⟩),.agg t.cs.toArray] w (zej AA w a ns F g kb rest (fun ms r=>zb4 D ms r (fun l=>zae l (k+1) t)))
theorem zr7 (S:zaI AA) (k:Nat):zfY D AA k 0:=by
 intro t w a ns F g kb ks rest hk h hb hgF hs hf hl hz
 have hA:At (w.alloc (Obj.cells t.cs.toArray 49)) w.heap.size 49 t.cs.toArray:=At.new _ _ _
 have hB:Below w.heap.size w (w.alloc (Obj.cells t.cs.toArray 49)):=zqb
 have hbW:BKs (w.alloc (Obj.cells t.cs.toArray 49)) g a F kb (ks++rest):=hb.next hB
 have cb:(w.alloc (Obj.cells t.cs.toArray 49)).cell? ⟨g,0,none⟩=some a:=hbW.cell
 have HI:=zqh (hs w (OffF.refl _ w))
 have hgp:zfM (fun p x=>zbZ D k p x) t.parts ks:=by unfold zbZ at hl;rwa [if_neg (by rw[hk];decide)] at hl
 obtain ⟨c0,c5,c6,c7,c8⟩:=At.tr_cell hA
 obtain ⟨s1,s2,s3,s4⟩:=At.tr_set hA
 rw[hk] at c0
 rw[HI.out.2.1.1] at c5
 obtain ⟨gp,rfl⟩:=S.ptr h
 have HA:=zqh h
 have HgF:=zqh hgF
 have HS:=zqh hs
 have HK:=zqh hk
 have HZ:=zqh hz
 have HFo:=zqh hf
 have HLo:=zqh hgp
 have HB:=zqh hB
 have HBW:=zqh hbW
 have HAt:=zqh hA
 have hpl0:t.parts.length=0:=by
  have:=zck hf
  unfold zch zge at this
  have:=(jB this).2.1
  rw[hk] at this
  simp at this
  first | omega | (rw[this];rfl) | simp[this]
 have hks:ks=[]:=by rw[qU hpl0] at hgp;exact hgp
 subst hks
 rw[yW] at hb
 have HBr:=zqh hb
 have HN:=zqh ((znl S.toArenaAny (S.next h hB)).mono (fun _ _ g=>g.from hB))
 (try clear hpl0);clear h hb hgF hs hf hgp hl hz hk hB hbW hA
 clear c5 c6 c7 c8 s1 s2 s3 s4
 go_enter Tryz.func52,Tryz.ntmps52
 go_wp2_with fail
 refine HN.out.mono ?_
 rintro e w2 gg
 obtain ⟨r,_,_,rfl,_⟩:=id gg
 have HG:=zqh (zej.of (gg.mono (R':=fun ms r=>zb4 D ms r (fun l=>zae l (k+1) t)) (fun more r q hfi hi=>by
  have e:(fun l=>zae l (k+1) t)=fun _=>noF:=by funext l;show (if _ then _ else _)=_;simp[HK.out]
  rw[e]
  exact zr1 hfi hi q) S.toArenaMid) (qT _ _) HBr.out HgF.out)
 clear gg
 go_wp2_with fail
 go_ret
 exact HG.out
theorem zr8 (S:zaI AA) (k:Nat):zfY D AA k 1:=by
 intro t w a ns F g kb ks rest hk h hb hgF hs hf hl hz
 have hA:At (w.alloc (Obj.cells t.cs.toArray 49)) w.heap.size 49 t.cs.toArray:=At.new _ _ _
 have hB:Below w.heap.size w (w.alloc (Obj.cells t.cs.toArray 49)):=zqb
 have hbW:BKs (w.alloc (Obj.cells t.cs.toArray 49)) g a F kb (ks++rest):=hb.next hB
 have cb:(w.alloc (Obj.cells t.cs.toArray 49)).cell? ⟨g,0,none⟩=some a:=hbW.cell
 have HI:=zqh (hs w (OffF.refl _ w))
 have hgp:zfM (fun p x=>zbZ D k p x) t.parts ks:=by unfold zbZ at hl;rwa [if_neg (by rw[hk];decide)] at hl
 obtain ⟨c0,c5,c6,c7,c8⟩:=At.tr_cell hA
 obtain ⟨s1,s2,s3,s4⟩:=At.tr_set hA
 rw[hk] at c0
 rw[HI.out.2.1.1] at c5
 obtain ⟨gp,rfl⟩:=S.ptr h
 have HA:=zqh h
 have HgF:=zqh hgF
 have HS:=zqh hs
 have HK:=zqh hk
 have HZ:=zqh hz
 have HFo:=zqh hf
 have HLo:=zqh hgp
 have HB:=zqh hB
 have HBW:=zqh hbW
 have HAt:=zqh hA
 have hpl0:t.parts.length=0:=by
  have:=zck hf
  unfold zch zge at this
  have:=(jB this).2.1
  rw[hk] at this
  simp at this
  first | omega | (rw[this];rfl) | simp[this]
 have hks:ks=[]:=by rw[qU hpl0] at hgp;exact hgp
 subst hks
 rw[yW] at hb
 have HBr:=zqh hb
 have HN:=zqh ((ziX S.toArenaAny (S.next h hB)).mono (fun _ _ g=>g.from hB))
 (try clear hpl0);clear h hb hgF hs hf hgp hl hz hk hB hbW hA
 clear c5 c6 c7 c8 s1 s2 s3 s4
 go_enter Tryz.func52,Tryz.ntmps52
 go_wp2_with fail
 refine HN.out.mono ?_
 rintro e w2 gg
 obtain ⟨r,_,_,rfl,_⟩:=id gg
 have HG:=zqh (zej.of (gg.mono (R':=fun ms r=>zb4 D ms r (fun l=>zae l (k+1) t)) (fun more r q hfi hi=>by
  have e:(fun l=>zae l (k+1) t)=fun _=>eqF:=by funext l;show (if _ then _ else _)=_;simp[HK.out]
  rw[e]
  exact zkO hfi hi q) S.toArenaMid) (qT _ _) HBr.out HgF.out)
 clear gg
 go_wp2_with fail
 go_ret
 exact HG.out
def zcm (t:Tr) (gp g b:Nat) (w:World):Prop:=w.cell? ⟨g,0,none⟩=some (.pointer (some ⟨gp,0,none⟩))/\w.cell? ⟨b,1,none⟩=some (.int .u64 t.set.w0)/\w.cell? ⟨b,2,none⟩=some (.int .u64 t.set.w1)/\w.cell? ⟨b,3,none⟩=some (.int .u64 t.set.w2)/\w.cell? ⟨b,4,none⟩=some (.int .u64 t.set.w3)/\w.cell? ⟨b,5,none⟩=some (.slice t.addr t.parts.length t.cap)/\w.cell? ⟨b,6,none⟩=some (.int .i64 t.lo)/\w.cell? ⟨b,7,none⟩=some (.int .i64 t.hi)
theorem zdc {t:Tr} {gp g:Nat} {w w2:World} {F:Nat->Prop} (hn:t.n=t.parts.length) (hF:∀b,F b->b<w.heap.size) (hg:g<w.heap.size) (ho:OffF (wg F g) (w.alloc (Obj.cells t.cs.toArray 49)) w2) (hc:w2.cell? ⟨g,0,none⟩=some (.pointer (some ⟨gp,0,none⟩))):zcm t gp g w.heap.size w2:=by
 have hA:At w2 w.heap.size 49 t.cs.toArray:=(ho.block _ (by rw[qV];omega) (fun z=>by
  rcases z with z | z
  ·have:=hF _ z;omega
  ·omega)).trans (At.new _ _ _)
 obtain ⟨c0,c5,c6,c7,c8⟩:=At.tr_cell hA
 obtain ⟨s1,s2,s3,s4⟩:=At.tr_set hA
 rw[hn] at c5
 exact ⟨hc,s1,s2,s3,s4,c5,c6,c7⟩
theorem zr9 (S:zaI AA) (k:Nat):zfY D AA k 2:=by
 intro t w a ns F g kb ks rest hk h hb hgF hs hf hl hz
 have hA:At (w.alloc (Obj.cells t.cs.toArray 49)) w.heap.size 49 t.cs.toArray:=At.new _ _ _
 have hB:Below w.heap.size w (w.alloc (Obj.cells t.cs.toArray 49)):=zqb
 have hbW:BKs (w.alloc (Obj.cells t.cs.toArray 49)) g a F kb (ks++rest):=hb.next hB
 have cb:(w.alloc (Obj.cells t.cs.toArray 49)).cell? ⟨g,0,none⟩=some a:=hbW.cell
 have HI:=zqh (hs w (OffF.refl _ w))
 have hgp:zfM (fun p x=>zbZ D k p x) t.parts ks:=by unfold zbZ at hl;rwa [if_neg (by rw[hk];decide)] at hl
 obtain ⟨c0,c5,c6,c7,c8⟩:=At.tr_cell hA
 obtain ⟨s1,s2,s3,s4⟩:=At.tr_set hA
 rw[hk] at c0
 rw[HI.out.2.1.1] at c5
 obtain ⟨gp,rfl⟩:=S.ptr h
 have HA:=zqh h
 have HgF:=zqh hgF
 have HS:=zqh hs
 have HK:=zqh hk
 have HZ:=zqh hz
 have HFo:=zqh hf
 have HLo:=zqh hgp
 have HB:=zqh hB
 have HBW:=zqh hbW
 have HAt:=zqh hA
 have hpl0:t.parts.length=0:=by
  have:=zck hf
  unfold zch zge at this
  have:=(jB this).2.1
  rw[hk] at this
  simp at this
  first | omega | (rw[this];rfl) | simp[this]
 have hks:ks=[]:=by rw[qU hpl0] at hgp;exact hgp
 subst hks
 rw[yW] at hb
 have HBr:=zqh hb
 have HT:Hid (∀w2,OffF (wg F g) (w.alloc (Obj.cells t.cs.toArray 49)) w2->w2.cell? ⟨g,0,none⟩=some (.pointer (some ⟨gp,0,none⟩))->zcm t gp g w.heap.size w2):=zqh (fun w2 ho hc=>zdc HI.out.2.1.1 (S.low h) hb.lt ho hc)
 have hT:zcm t gp g w.heap.size (w.alloc (Obj.cells t.cs.toArray 49)):=HT.out _ (OffF.refl _ _) hbW.cell
 have HN:Hid (∀W',Below (w.alloc (Obj.cells t.cs.toArray 49)).heap.size (w.alloc (Obj.cells t.cs.toArray 49)) W'->Calls Tryz.prog 84 #[.pointer (some ⟨gp,0,none⟩),.agg #[.int .u64 t.set.w0,.int .u64 t.set.w1,.int .u64 t.set.w2,.int .u64 t.set.w3]] W' (Got AA (w.alloc (Obj.cells t.cs.toArray 49)) (.pointer (some ⟨gp,0,none⟩)) ns F (fun ms r=>(t.set.list.length=0/\kd ms r=0)\/(t.set.list.length≠0/\zaQ ms r.toNat=⟨2,t.set,0,0,false⟩)))):=zqh (fun W' hb=>(znq S.toArenaAny t.set (S.next (S.next h hB) hb) HI.out.1.1).mono (fun _ _ g=>g.from hb))
 (try clear hpl0);clear h hb hgF hs hf hgp hl hz hk hB hbW hA
 go_enter Tryz.func52,Tryz.ntmps52
 go_wp2_with fail
 refine wp_region_noPanic ?_
 refine wp_region_held_drew (S:=(fun w'=>zcm t gp g w.heap.size w')) (by kernel_rfl) (by exact hT) (fun hHeld=>?_)
 refine wpAnyH_take (i:=0) (oi:=⟨some 23,_,_,_,_,_⟩) (v:=?_) rfl (by kernel_rfl) (by kernel_rfl) (by kernel_rfl) (fun _ _ _ h=>h) (Or.inl ⟨by rfl,?_⟩) (by exact hHeld) ?_
 rotate_left
 ·(intro w hSw;(try dsimp only at hSw);go_simp;try (with_reducible rfl))
 simp only[Act.put,qA,qB,qC]
 refine wpAnyH_take (i:=1) (oi:=⟨some 24,_,_,_,_,_⟩) (v:=?_) rfl (by kernel_rfl) (by kernel_rfl) (by kernel_rfl) (fun _ _ _ h=>h) (Or.inl ⟨by rfl,?_⟩) (by exact hHeld) ?_
 rotate_left
 ·(intro w hSw;(try dsimp only at hSw);go_simp;try (with_reducible rfl))
 simp only[Act.put,qA,qB,qC]
 refine wpAnyH_take (i:=2) (oi:=⟨some 25,_,_,_,_,_⟩) (v:=?_) rfl (by kernel_rfl) (by kernel_rfl) (by kernel_rfl) (fun _ _ _ h=>h) (Or.inl ⟨by rfl,?_⟩) (by exact hHeld) ?_
 rotate_left
 ·(intro w hSw;(try dsimp only at hSw);go_simp;try (with_reducible rfl))
 simp only[Act.put,qA,qB,qC]
 refine wpAnyH_take (i:=3) (oi:=⟨some 26,_,_,_,_,_⟩) (v:=?_) rfl (by kernel_rfl) (by kernel_rfl) (by kernel_rfl) (fun _ _ _ h=>h) (Or.inl ⟨by rfl,?_⟩) (by exact hHeld) ?_
 rotate_left
 ·(intro w hSw;(try dsimp only at hSw);obtain ⟨q0,q1,q2,q3,q4,q5,q6,q7⟩:=hSw;go_simp;try (with_reducible rfl))
 simp only[Act.put,qA,qB,qC]
 refine wpAnyH_take (i:=4) (oi:=⟨some 27,_,_,_,_,_⟩) (v:=?_) rfl (by kernel_rfl) (by kernel_rfl) (by kernel_rfl) (fun _ _ _ h=>h) (Or.inl ⟨by rfl,?_⟩) (by exact hHeld) ?_
 rotate_left
 ·(intro w hSw;(try dsimp only at hSw);go_simp;try (with_reducible rfl))
 simp only[Act.put,qA,qB,qC]
 refine wpAnyH_take (i:=5) (oi:=⟨some 28,_,_,_,_,_⟩) (v:=?_) rfl (by kernel_rfl) (by kernel_rfl) (by kernel_rfl) (fun _ _ _ h=>h) (Or.inl ⟨by rfl,?_⟩) (by exact hHeld) ?_
 rotate_left
 ·(intro w hSw;(try dsimp only at hSw);obtain ⟨q0,q1,q2,q3,q4,q5,q6,q7⟩:=hSw;go_simp;try (with_reducible rfl))
 simp only[Act.put,qA,qB,qC]
 refine wpAnyH_ready (rs:=[6]) (by kernel_rfl) (by simp) ?_
 refine AllReadyH.cons (o:=⟨some 29,_,_,_,_,_⟩) rfl (fun K hK=>?_) AllReadyH.nil
 go_simp
 ((with_reducible refine (HN.out _ (qT _ _).drew).mono ?_))
 rintro e w2 gg
 obtain ⟨r,more,F',rfl,_,g2,g3,_⟩:=id gg
 have HG:=zqh (zej.of (gg.mono (R':=fun ms r=>zb4 D ms r (fun l=>zae l (k+1) t)) (fun more r q hfi hi=>by
  have e:(fun l=>zae l (k+1) t)=fun l=>zbL t.set l:=by funext l;show (if _ then _ else _)=_;simp[HK.out]
  rw[e]
  exact zpD hfi hi q) S.toArenaMid) HB.out HBr.out HgF.out)
 have hT:zcm t gp g w.heap.size w2:=HT.out _ (g3.wg g) (BKs.cell (HBW.out.off HgF.out g3 g2))
 clear g2 g3 gg
 dsimp only
 refine hK.out _ _ ?_ (fun hHeld=>?_)
 ·exact hT
 clear hK K
 try simp only[Act.put,qA,qB,qC]
 refine wpAnyH_take (i:=7) (oi:=⟨some 4,_,_,_,_,_⟩) (v:=?_) rfl (by kernel_rfl) (by kernel_rfl) (by kernel_rfl) (fun _ _ _ h=>h) (Or.inl ⟨by rfl,?_⟩) (by exact hHeld) ?_
 rotate_left
 ·(intro w hSw;(try dsimp only at hSw);go_simp;try (with_reducible rfl))
 simp only[Act.put,qA,qB,qC]
 refine wpAnyH_done (by kernel_rfl) ?_ _
 refine NoPanic.normal ?_
 go_wp2_with fail
 go_ret
 exact HG.out
end
end

section
open Go.RowKit Go.Shelf
variable {D:List Nat->List Nat->Prop} {u:Value}
section
variable {AA:World->Value->List Nd->(Nat->Prop)->Prop}
theorem zsa (S:zaI AA) (k:Nat) (IH:zj2 D AA k):zfY D AA k 3:=by
 intro t w a ns F g kb ks rest hk h hb hgF hs hf hl hz
 have hA:At (w.alloc (Obj.cells t.cs.toArray 49)) w.heap.size 49 t.cs.toArray:=At.new _ _ _
 have hB:Below w.heap.size w (w.alloc (Obj.cells t.cs.toArray 49)):=zqb
 have hbW:BKs (w.alloc (Obj.cells t.cs.toArray 49)) g a F kb (ks++rest):=hb.next hB
 have cb:(w.alloc (Obj.cells t.cs.toArray 49)).cell? ⟨g,0,none⟩=some a:=hbW.cell
 have HI:=zqh (hs w (OffF.refl _ w))
 have hgp:zfM (fun p x=>zbZ D k p x) t.parts ks:=by unfold zbZ at hl;rwa [if_neg (by rw[hk];decide)] at hl
 obtain ⟨c0,c5,c6,c7,c8⟩:=At.tr_cell hA
 obtain ⟨s1,s2,s3,s4⟩:=At.tr_set hA
 rw[hk] at c0
 rw[HI.out.2.1.1] at c5
 obtain ⟨gp,rfl⟩:=S.ptr h
 have HA:=zqh h
 have HgF:=zqh hgF
 have HS:=zqh hs
 have HK:=zqh hk
 have HZ:=zqh hz
 have HFo:=zqh hf
 have HLo:=zqh hgp
 have HB:=zqh hB
 have HBW:=zqh hbW
 have HAt:=zqh hA
 have HT:Hid (∀w2,OffF (wg F g) (w.alloc (Obj.cells t.cs.toArray 49)) w2->w2.cell? ⟨g,0,none⟩=some (.pointer (some ⟨gp,0,none⟩))->zcm t gp g w.heap.size w2):=zqh (fun w2 ho hc=>zdc HI.out.2.1.1 (S.low h) hb.lt ho hc)
 have hT:zcm t gp g w.heap.size (w.alloc (Obj.cells t.cs.toArray 49)):=HT.out _ (OffF.refl _ _) hbW.cell
 have hsum:=zi4 hz
 have hfo:zch t=true/\t.parts.all (zah k)=true:=by
  have:(zch t&&t.parts.all (zah k))=true:=hf
  rw[qR] at this
  exact this
 have hfp:∀p∈t.parts,zah k p=true:=fun p hp=>List.all_eq_true.1 hfo.2 p hp
 have hzp:∀p∈t.parts,zam k p<=1000:=fun p hp=>by have h1:=zhG (k:=k) hp;have h2:=zep k p;omega
 have hnp:t.parts.length<=1000:=by
  by_cases h0:0<t.parts.length
  ·have h1:=zdb (k:=k) 0 h0 (fun p hp=>zeq (hfp p hp))
   have h2:=zeq (hfp _ (qG h0))
   omega
  ·omega
 have HNs:Hid (∀W',Below (w.alloc (Obj.cells t.cs.toArray 49)).heap.size (w.alloc (Obj.cells t.cs.toArray 49)) W'->Calls Tryz.prog 86 #[.pointer (some ⟨g,0,none⟩),.slice t.addr t.parts.length t.cap] W' fun e w'=>∃(v:Value) (xs:List Int) (more:List Nd) (F':Nat->Prop),e=.returned v/\zas w' W'.heap.size v xs/\(∀b,v.ownBlock=some b->¬F' b)/\AA w' (.pointer (some ⟨gp,0,none⟩)) (ns++more) F'/\(∀b,F' b->F b\/W'.heap.size<=b)/\OffF (wg F g) W' w'/\BKs w' g (.pointer (some ⟨gp,0,none⟩)) F' kb rest/\zix D (ns++more) k xs t.parts):=zqh (fun W' hb2=>zj3 S k IH t.addr t.cap t.parts g kb ks rest (S.next (S.next h hB) hb2) (hbW.next hb2) hgF (hs.parts.step ((OffF.of hB).then hb2) (fun b q=>Or.inl q)) hfp hgp hzp hnp)
 have HNp:=zqh hnp
 clear hsum hfo hfp hzp hnp
 (try clear hpl0);clear h hb hgF hs hf hgp hl hz hk hB hbW hA
 clear IH hT
 go_enter Tryz.func52,Tryz.ntmps52
 go_wp2_with fail
 refine (HNs.out _ (qT _ _)).mono ?_
 rintro e w2 ⟨v,xs,more,F',rfl,n1,n2,n3,n4,n5,nb,n7⟩
 obtain ⟨u2,hba2,hkr2⟩:=id nb
 have HNb:=zqh nb
 have HgF2:Hid (¬F' g):=zqh (fun z=>by
  rcases n4 _ z with z | z
  ·exact HgF.out z
  ·have:=HBW.out.lt;omega)
 have hxl:=n7.1
 have HCt:Hid (Calls Tryz.prog 85 #[.pointer (some ⟨g,0,none⟩),v] w2 (Got AA w2 (.pointer (some ⟨gp,0,none⟩)) (ns++more) F' fun ms r=>zhE ms xs r)):=zqh (by
  by_cases h0:0<xs.length
  ·exact zr6 S g xs n3 hba2 HgF2.out n1 h0 n2 n7.num (by have:=HNp.out;omega)
  ·obtain rfl:xs=[]:=qU (by omega)
   obtain ⟨A,c,ev⟩:=n1.len
   subst ev
   exact ztX S g A c n3 hba2)
 have HW1:=zqh n4
 have HW2:=zqh n5
 have HW4:=zqh n7
 clear n1 n2 n3 n4 n5 n7 nb hba2 hkr2 hxl
 go_wp2_with fail
 refine HCt.out.mono ?_
 rintro e w3 gg
 obtain ⟨r,_,_,rfl,_⟩:=id gg
 have HG:=zqh (zej.from (w1:=(w.alloc (Obj.cells t.cs.toArray 49))) (zej.then HW1.out HW2.out HNb.out HgF2.out (gg.mono (R':=fun ms r=>zb4 D ms r (fun l=>zae l (k+1) t)) (fun more2 r q hfi hi=>by
  have e:(fun l=>zae l (k+1) t)=(fun l=>(t.parts.map (zae l k)).foldl (fun f g=>zaF f g (l.length+1)) eqF):=by funext l;show (if _ then _ else _)=_;simp[HK.out]
  rw[e]
  exact ztQ q ((HW4.out.up more2).all q.1)) S.toArenaMid)) HB.out)
 clear gg
 go_wp2_with fail
 go_ret
 exact HG.out
end
end

section
open Go.RowKit Go.Shelf
variable {D:List Nat->List Nat->Prop} {u:Value}
section
variable {AA:World->Value->List Nd->(Nat->Prop)->Prop}
theorem zsb (S:zaI AA) (k:Nat) (IH:zj2 D AA k):zfY D AA k 4:=by
 intro t w a ns F g kb ks rest hk h hb hgF hs hf hl hz
 have hA:At (w.alloc (Obj.cells t.cs.toArray 49)) w.heap.size 49 t.cs.toArray:=At.new _ _ _
 have hB:Below w.heap.size w (w.alloc (Obj.cells t.cs.toArray 49)):=zqb
 have hbW:BKs (w.alloc (Obj.cells t.cs.toArray 49)) g a F kb (ks++rest):=hb.next hB
 have cb:(w.alloc (Obj.cells t.cs.toArray 49)).cell? ⟨g,0,none⟩=some a:=hbW.cell
 have HI:=zqh (hs w (OffF.refl _ w))
 have hgp:zfM (fun p x=>zbZ D k p x) t.parts ks:=by unfold zbZ at hl;rwa [if_neg (by rw[hk];decide)] at hl
 obtain ⟨c0,c5,c6,c7,c8⟩:=At.tr_cell hA
 obtain ⟨s1,s2,s3,s4⟩:=At.tr_set hA
 rw[hk] at c0
 rw[HI.out.2.1.1] at c5
 obtain ⟨gp,rfl⟩:=S.ptr h
 have HA:=zqh h
 have HgF:=zqh hgF
 have HS:=zqh hs
 have HK:=zqh hk
 have HZ:=zqh hz
 have HFo:=zqh hf
 have HLo:=zqh hgp
 have HB:=zqh hB
 have HBW:=zqh hbW
 have HAt:=zqh hA
 have HT:Hid (∀w2,OffF (wg F g) (w.alloc (Obj.cells t.cs.toArray 49)) w2->w2.cell? ⟨g,0,none⟩=some (.pointer (some ⟨gp,0,none⟩))->zcm t gp g w.heap.size w2):=zqh (fun w2 ho hc=>zdc HI.out.2.1.1 (S.low h) hb.lt ho hc)
 have hT:zcm t gp g w.heap.size (w.alloc (Obj.cells t.cs.toArray 49)):=HT.out _ (OffF.refl _ _) hbW.cell
 have hsum:=zi4 hz
 have hfo:zch t=true/\t.parts.all (zah k)=true:=by
  have:(zch t&&t.parts.all (zah k))=true:=hf
  rw[qR] at this
  exact this
 have hfp:∀p∈t.parts,zah k p=true:=fun p hp=>List.all_eq_true.1 hfo.2 p hp
 have hzp:∀p∈t.parts,zam k p<=1000:=fun p hp=>by have h1:=zhG (k:=k) hp;have h2:=zep k p;omega
 have hnp:t.parts.length<=1000:=by
  by_cases h0:0<t.parts.length
  ·have h1:=zdb (k:=k) 0 h0 (fun p hp=>zeq (hfp p hp))
   have h2:=zeq (hfp _ (qG h0))
   omega
  ·omega
 have HNs:Hid (∀W',Below (w.alloc (Obj.cells t.cs.toArray 49)).heap.size (w.alloc (Obj.cells t.cs.toArray 49)) W'->Calls Tryz.prog 86 #[.pointer (some ⟨g,0,none⟩),.slice t.addr t.parts.length t.cap] W' fun e w'=>∃(v:Value) (xs:List Int) (more:List Nd) (F':Nat->Prop),e=.returned v/\zas w' W'.heap.size v xs/\(∀b,v.ownBlock=some b->¬F' b)/\AA w' (.pointer (some ⟨gp,0,none⟩)) (ns++more) F'/\(∀b,F' b->F b\/W'.heap.size<=b)/\OffF (wg F g) W' w'/\BKs w' g (.pointer (some ⟨gp,0,none⟩)) F' kb rest/\zix D (ns++more) k xs t.parts):=zqh (fun W' hb2=>zj3 S k IH t.addr t.cap t.parts g kb ks rest (S.next (S.next h hB) hb2) (hbW.next hb2) hgF (hs.parts.step ((OffF.of hB).then hb2) (fun b q=>Or.inl q)) hfp hgp hzp hnp)
 have HNp:=zqh hnp
 clear hsum hfo hfp hzp hnp
 (try clear hpl0);clear h hb hgF hs hf hgp hl hz hk hB hbW hA
 clear IH
 go_enter Tryz.func52,Tryz.ntmps52
 go_wp2_with fail
 refine wp_region_noPanic ?_
 refine wp_region_held_drew (S:=(fun w'=>zcm t gp g w.heap.size w')) (by kernel_rfl) (by exact hT) (fun hHeld=>?_)
 refine wpAnyH_take (i:=0) (oi:=⟨some 40,_,_,_,_,_⟩) (v:=?_) rfl (by kernel_rfl) (by kernel_rfl) (by kernel_rfl) (fun _ _ _ h=>h) (Or.inl ⟨by rfl,?_⟩) (by exact hHeld) ?_
 rotate_left
 ·(intro w hSw;(try dsimp only at hSw);go_simp;try (with_reducible rfl))
 simp only[Act.put,qA,qB,qC]
 refine wpAnyH_take (i:=1) (oi:=⟨some 41,_,_,_,_,_⟩) (v:=?_) rfl (by kernel_rfl) (by kernel_rfl) (by kernel_rfl) (fun _ _ _ h=>h) (Or.inl ⟨by rfl,?_⟩) (by exact hHeld) ?_
 rotate_left
 ·(intro w hSw;(try dsimp only at hSw);go_simp;try (with_reducible rfl))
 simp only[Act.put,qA,qB,qC]
 refine wpAnyH_take (i:=2) (oi:=⟨some 42,_,_,_,_,_⟩) (v:=?_) rfl (by kernel_rfl) (by kernel_rfl) (by kernel_rfl) (fun _ _ _ h=>h) (Or.inl ⟨by rfl,?_⟩) (by exact hHeld) ?_
 rotate_left
 ·(intro w hSw;(try dsimp only at hSw);go_simp;try (with_reducible rfl))
 simp only[Act.put,qA,qB,qC]
 refine wpAnyH_take (i:=3) (oi:=⟨some 43,_,_,_,_,_⟩) (v:=?_) rfl (by kernel_rfl) (by kernel_rfl) (by kernel_rfl) (fun _ _ _ h=>h) (Or.inl ⟨by rfl,?_⟩) (by exact hHeld) ?_
 rotate_left
 ·(intro w hSw;(try dsimp only at hSw);obtain ⟨q0,q1,q2,q3,q4,q5,q6,q7⟩:=hSw;go_simp;try (with_reducible rfl))
 simp only[Act.put,qA,qB,qC]
 refine wpAnyH_take (i:=4) (oi:=⟨some 44,_,_,_,_,_⟩) (v:=?_) rfl (by kernel_rfl) (by kernel_rfl) (by kernel_rfl) (fun _ _ _ h=>h) (Or.inl ⟨by rfl,?_⟩) (by exact hHeld) ?_
 rotate_left
 ·(intro w hSw;(try dsimp only at hSw);go_simp;try (with_reducible rfl))
 simp only[Act.put,qA,qB,qC]
 refine wpAnyH_take (i:=5) (oi:=⟨some 45,_,_,_,_,_⟩) (v:=?_) rfl (by kernel_rfl) (by kernel_rfl) (by kernel_rfl) (fun _ _ _ h=>h) (Or.inl ⟨by rfl,?_⟩) (by exact hHeld) ?_
 rotate_left
 ·(intro w hSw;(try dsimp only at hSw);go_simp;try (with_reducible rfl))
 simp only[Act.put,qA,qB,qC]
 refine wpAnyH_take (i:=6) (oi:=⟨some 46,_,_,_,_,_⟩) (v:=?_) rfl (by kernel_rfl) (by kernel_rfl) (by kernel_rfl) (fun _ _ _ h=>h) (Or.inl ⟨by rfl,?_⟩) (by exact hHeld) ?_
 rotate_left
 ·(intro w hSw;(try dsimp only at hSw);obtain ⟨q0,q1,q2,q3,q4,q5,q6,q7⟩:=hSw;go_simp;try (with_reducible rfl))
 simp only[Act.put,qA,qB,qC]
 refine wpAnyH_ready (rs:=[7]) (by kernel_rfl) (by simp) ?_
 refine AllReadyH.cons (o:=⟨some 47,_,_,_,_,_⟩) rfl (fun K hK=>?_) AllReadyH.nil
 go_simp
 ((with_reducible refine (HNs.out _ (qT _ _).drew).mono ?_))
 rintro e w2 ⟨v,xs,more,F',rfl,n1,n2,n3,n4,n5,nb,n7⟩
 have HNb:=zqh nb
 have n5:OffF (wg F g) (w.alloc (Obj.cells t.cs.toArray 49)) w2:=⟨n5.os,n5.tape,n5.output,n5.size,n5.block⟩
 have n4:∀b,F' b->F b\/(w.alloc (Obj.cells t.cs.toArray 49)).heap.size<=b:=n4
 have HgF2:Hid (¬F' g):=zqh (fun z=>by rcases n4 _ z with z | z;exact HgF.out z;have:=HBW.out.lt;omega)
 have hT:zcm t gp g w.heap.size w2:=HT.out _ n5 nb.cell
 have HJ:=zqh (zvA S xs n3 n1.list (by have:=n7.1;have:=HNp.out;omega))
 have HW1:=zqh n4
 have HW2:=zqh n5
 have HW4:=zqh n7
 clear n1 n2 n3 n4 n5 nb n7
 dsimp only
 refine hK.out _ _ ?_ (fun hHeld=>?_)
 ·exact hT
 clear hK K
 try simp only[Act.put,qA,qB,qC]
 refine wpAnyH_ready (rs:=[8]) (by kernel_rfl) (by simp) ?_
 refine AllReadyH.cons (o:=⟨some 48,_,_,_,_,_⟩) rfl (fun K hK=>?_) AllReadyH.nil
 go_simp
 ((with_reducible refine HJ.out.mono ?_))
 rintro e w3 gg
 obtain ⟨r,_,F2,rfl,_,g2,g3,_⟩:=id gg
 have HG:=zqh (zej.from (w1:=(w.alloc (Obj.cells t.cs.toArray 49))) (zej.then HW1.out HW2.out HNb.out HgF2.out (gg.mono (R':=fun ms r=>zb4 D ms r (fun l=>zae l (k+1) t)) (fun more2 r q hfi hi=>by
  have e:(fun l=>zae l (k+1) t)=(fun l=>(t.parts.map (zae l k)).foldl (fun f g i j=>f i j||g i j) noF):=by funext l;show (if _ then _ else _)=_;simp[HK.out]
  rw[e]
  exact zu0 hfi hi (znz q.2 q.1) (zoA.up (HW4.out.all q.1) more2)) S.toArenaMid)) HB.out)
 have hT:zcm t gp g w.heap.size w3:=HT.out _ (HW2.out.off (g3.wg g) (zeo HW1.out)) (HNb.out.off HgF2.out g3 g2).cell
 clear g2 g3 gg
 dsimp only
 refine hK.out _ _ ?_ (fun hHeld=>?_)
 ·exact hT
 clear hK K
 try simp only[Act.put,qA,qB,qC]
 refine wpAnyH_take (i:=9) (oi:=⟨some 4,_,_,_,_,_⟩) (v:=?_) rfl (by kernel_rfl) (by kernel_rfl) (by kernel_rfl) (fun _ _ _ h=>h) (Or.inl ⟨by rfl,?_⟩) (by exact hHeld) ?_
 rotate_left
 ·(intro w hSw;(try dsimp only at hSw);go_simp;try (with_reducible rfl))
 simp only[Act.put,qA,qB,qC]
 refine wpAnyH_done (by kernel_rfl) ?_ _
 refine NoPanic.normal ?_
 go_wp2_with fail
 go_ret
 exact HG.out
theorem zsc (S:zaI AA) (k:Nat) (IH:zj2 D AA k):zfY D AA k 5:=by
 intro t w a ns F g kb ks rest hk h hb hgF hs hf hl hz
 have hA:At (w.alloc (Obj.cells t.cs.toArray 49)) w.heap.size 49 t.cs.toArray:=At.new _ _ _
 have hB:Below w.heap.size w (w.alloc (Obj.cells t.cs.toArray 49)):=zqb
 have hbW:BKs (w.alloc (Obj.cells t.cs.toArray 49)) g a F kb (ks++rest):=hb.next hB
 have cb:(w.alloc (Obj.cells t.cs.toArray 49)).cell? ⟨g,0,none⟩=some a:=hbW.cell
 have HI:=zqh (hs w (OffF.refl _ w))
 have hgp:zfM (fun p x=>zbZ D k p x) t.parts ks:=by unfold zbZ at hl;rwa [if_neg (by rw[hk];decide)] at hl
 obtain ⟨c0,c5,c6,c7,c8⟩:=At.tr_cell hA
 obtain ⟨s1,s2,s3,s4⟩:=At.tr_set hA
 rw[hk] at c0
 rw[HI.out.2.1.1] at c5
 obtain ⟨gp,rfl⟩:=S.ptr h
 have HA:=zqh h
 have HgF:=zqh hgF
 have HS:=zqh hs
 have HK:=zqh hk
 have HZ:=zqh hz
 have HFo:=zqh hf
 have HLo:=zqh hgp
 have HB:=zqh hB
 have HBW:=zqh hbW
 have HAt:=zqh hA
 have HT:Hid (∀w2,OffF (wg F g) (w.alloc (Obj.cells t.cs.toArray 49)) w2->w2.cell? ⟨g,0,none⟩=some (.pointer (some ⟨gp,0,none⟩))->zcm t gp g w.heap.size w2):=zqh (fun w2 ho hc=>zdc HI.out.2.1.1 (S.low h) hb.lt ho hc)
 have hT:zcm t gp g w.heap.size (w.alloc (Obj.cells t.cs.toArray 49)):=HT.out _ (OffF.refl _ _) hbW.cell
 have hsum:=zi4 hz
 have hfo:zch t=true/\t.parts.all (zah k)=true:=by
  have:(zch t&&t.parts.all (zah k))=true:=hf
  rw[qR] at this
  exact this
 have hfp:∀p∈t.parts,zah k p=true:=fun p hp=>List.all_eq_true.1 hfo.2 p hp
 have hzp:∀p∈t.parts,zam k p<=1000:=fun p hp=>by have h1:=zhG (k:=k) hp;have h2:=zep k p;omega
 have hnp:t.parts.length<=1000:=by
  by_cases h0:0<t.parts.length
  ·have h1:=zdb (k:=k) 0 h0 (fun p hp=>zeq (hfp p hp))
   have h2:=zeq (hfp _ (qG h0))
   omega
  ·omega
 have HNs:Hid (∀W',Below (w.alloc (Obj.cells t.cs.toArray 49)).heap.size (w.alloc (Obj.cells t.cs.toArray 49)) W'->Calls Tryz.prog 86 #[.pointer (some ⟨g,0,none⟩),.slice t.addr t.parts.length t.cap] W' fun e w'=>∃(v:Value) (xs:List Int) (more:List Nd) (F':Nat->Prop),e=.returned v/\zas w' W'.heap.size v xs/\(∀b,v.ownBlock=some b->¬F' b)/\AA w' (.pointer (some ⟨gp,0,none⟩)) (ns++more) F'/\(∀b,F' b->F b\/W'.heap.size<=b)/\OffF (wg F g) W' w'/\BKs w' g (.pointer (some ⟨gp,0,none⟩)) F' kb rest/\zix D (ns++more) k xs t.parts):=zqh (fun W' hb2=>zj3 S k IH t.addr t.cap t.parts g kb ks rest (S.next (S.next h hB) hb2) (hbW.next hb2) hgF (hs.parts.step ((OffF.of hB).then hb2) (fun b q=>Or.inl q)) hfp hgp hzp hnp)
 have HNp:=zqh hnp
 clear hsum hfo hfp hzp hnp
 (try clear hpl0);clear h hb hgF hs hf hgp hl hz hk hB hbW hA
 clear IH
 go_enter Tryz.func52,Tryz.ntmps52
 go_wp2_with fail
 refine wp_region_noPanic ?_
 refine wp_region_held_drew (S:=(fun w'=>zcm t gp g w.heap.size w')) (by kernel_rfl) (by exact hT) (fun hHeld=>?_)
 refine wpAnyH_take (i:=0) (oi:=⟨some 51,_,_,_,_,_⟩) (v:=?_) rfl (by kernel_rfl) (by kernel_rfl) (by kernel_rfl) (fun _ _ _ h=>h) (Or.inl ⟨by rfl,?_⟩) (by exact hHeld) ?_
 rotate_left
 ·(intro w hSw;(try dsimp only at hSw);go_simp;try (with_reducible rfl))
 simp only[Act.put,qA,qB,qC]
 refine wpAnyH_take (i:=1) (oi:=⟨some 52,_,_,_,_,_⟩) (v:=?_) rfl (by kernel_rfl) (by kernel_rfl) (by kernel_rfl) (fun _ _ _ h=>h) (Or.inl ⟨by rfl,?_⟩) (by exact hHeld) ?_
 rotate_left
 ·(intro w hSw;(try dsimp only at hSw);go_simp;try (with_reducible rfl))
 simp only[Act.put,qA,qB,qC]
 refine wpAnyH_take (i:=2) (oi:=⟨some 53,_,_,_,_,_⟩) (v:=?_) rfl (by kernel_rfl) (by kernel_rfl) (by kernel_rfl) (fun _ _ _ h=>h) (Or.inl ⟨by rfl,?_⟩) (by exact hHeld) ?_
 rotate_left
 ·(intro w hSw;(try dsimp only at hSw);go_simp;try (with_reducible rfl))
 simp only[Act.put,qA,qB,qC]
 refine wpAnyH_take (i:=3) (oi:=⟨some 54,_,_,_,_,_⟩) (v:=?_) rfl (by kernel_rfl) (by kernel_rfl) (by kernel_rfl) (fun _ _ _ h=>h) (Or.inl ⟨by rfl,?_⟩) (by exact hHeld) ?_
 rotate_left
 ·(intro w hSw;(try dsimp only at hSw);obtain ⟨q0,q1,q2,q3,q4,q5,q6,q7⟩:=hSw;go_simp;try (with_reducible rfl))
 simp only[Act.put,qA,qB,qC]
 refine wpAnyH_take (i:=4) (oi:=⟨some 55,_,_,_,_,_⟩) (v:=?_) rfl (by kernel_rfl) (by kernel_rfl) (by kernel_rfl) (fun _ _ _ h=>h) (Or.inl ⟨by rfl,?_⟩) (by exact hHeld) ?_
 rotate_left
 ·(intro w hSw;(try dsimp only at hSw);go_simp;try (with_reducible rfl))
 simp only[Act.put,qA,qB,qC]
 refine wpAnyH_take (i:=5) (oi:=⟨some 56,_,_,_,_,_⟩) (v:=?_) rfl (by kernel_rfl) (by kernel_rfl) (by kernel_rfl) (fun _ _ _ h=>h) (Or.inl ⟨by rfl,?_⟩) (by exact hHeld) ?_
 rotate_left
 ·(intro w hSw;(try dsimp only at hSw);go_simp;try (with_reducible rfl))
 simp only[Act.put,qA,qB,qC]
 refine wpAnyH_take (i:=6) (oi:=⟨some 57,_,_,_,_,_⟩) (v:=?_) rfl (by kernel_rfl) (by kernel_rfl) (by kernel_rfl) (fun _ _ _ h=>h) (Or.inl ⟨by rfl,?_⟩) (by exact hHeld) ?_
 rotate_left
 ·(intro w hSw;(try dsimp only at hSw);obtain ⟨q0,q1,q2,q3,q4,q5,q6,q7⟩:=hSw;go_simp;try (with_reducible rfl))
 simp only[Act.put,qA,qB,qC]
 refine wpAnyH_ready (rs:=[7]) (by kernel_rfl) (by simp) ?_
 refine AllReadyH.cons (o:=⟨some 58,_,_,_,_,_⟩) rfl (fun K hK=>?_) AllReadyH.nil
 go_simp
 ((with_reducible refine (HNs.out _ (qT _ _).drew).mono ?_))
 rintro e w2 ⟨v,xs,more,F',rfl,n1,n2,n3,n4,n5,nb,n7⟩
 have HNb:=zqh nb
 have n5:OffF (wg F g) (w.alloc (Obj.cells t.cs.toArray 49)) w2:=⟨n5.os,n5.tape,n5.output,n5.size,n5.block⟩
 have n4:∀b,F' b->F b\/(w.alloc (Obj.cells t.cs.toArray 49)).heap.size<=b:=n4
 have HgF2:Hid (¬F' g):=zqh (fun z=>by rcases n4 _ z with z | z;exact HgF.out z;have:=HBW.out.lt;omega)
 have hT:zcm t gp g w.heap.size w2:=HT.out _ n5 nb.cell
 have HJ:=zqh (zu1 S xs n3 n1.list (by have:=n7.1;have:=HNp.out;omega))
 have HW1:=zqh n4
 have HW2:=zqh n5
 have HW4:=zqh n7
 clear n1 n2 n3 n4 n5 nb n7
 dsimp only
 refine hK.out _ _ ?_ (fun hHeld=>?_)
 ·exact hT
 clear hK K
 try simp only[Act.put,qA,qB,qC]
 refine wpAnyH_ready (rs:=[8]) (by kernel_rfl) (by simp) ?_
 refine AllReadyH.cons (o:=⟨some 59,_,_,_,_,_⟩) rfl (fun K hK=>?_) AllReadyH.nil
 go_simp
 ((with_reducible refine HJ.out.mono ?_))
 rintro e w3 gg
 obtain ⟨r,_,F2,rfl,_,g2,g3,_⟩:=id gg
 have HG:=zqh (zej.from (w1:=(w.alloc (Obj.cells t.cs.toArray 49))) (zej.then HW1.out HW2.out HNb.out HgF2.out (gg.mono (R':=fun ms r=>zb4 D ms r (fun l=>zae l (k+1) t)) (fun more2 r q hfi hi=>by
  have e:(fun l=>zae l (k+1) t)=(fun l=>(t.parts.map (zae l k)).foldl (fun f g i j=>f i j&&g i j) (zaW noF)):=by funext l;show (if _ then _ else _)=_;simp[HK.out]
  rw[e]
  exact ztT hfi hi (znz q.2 q.1) (zoA.up (HW4.out.all q.1) more2)) S.toArenaMid)) HB.out)
 have hT:zcm t gp g w.heap.size w3:=HT.out _ (HW2.out.off (g3.wg g) (zeo HW1.out)) (HNb.out.off HgF2.out g3 g2).cell
 clear g2 g3 gg
 dsimp only
 refine hK.out _ _ ?_ (fun hHeld=>?_)
 ·exact hT
 clear hK K
 try simp only[Act.put,qA,qB,qC]
 refine wpAnyH_take (i:=9) (oi:=⟨some 4,_,_,_,_,_⟩) (v:=?_) rfl (by kernel_rfl) (by kernel_rfl) (by kernel_rfl) (fun _ _ _ h=>h) (Or.inl ⟨by rfl,?_⟩) (by exact hHeld) ?_
 rotate_left
 ·(intro w hSw;(try dsimp only at hSw);go_simp;try (with_reducible rfl))
 simp only[Act.put,qA,qB,qC]
 refine wpAnyH_done (by kernel_rfl) ?_ _
 refine NoPanic.normal ?_
 go_wp2_with fail
 go_ret
 exact HG.out
end
end
end Go.Proofs.YtdmodhnhldbpnaaGreat
