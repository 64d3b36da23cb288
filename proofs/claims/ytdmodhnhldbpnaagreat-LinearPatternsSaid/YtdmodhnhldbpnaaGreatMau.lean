/- Joined: GlNodeD, GlNode, BuildLooks. -/
import Derived.Test.YtdmodhnhldbpnaaGreatMas
import Derived.Test.YtdmodhnhldbpnaaGreatMat
import Derived.Test.YtdmodhnhldbpnaaGreatMac
import Derived.Deep.QuietTactic
import Derived.Test.YtdmodhnhldbpnaaGreatMzy
import Derived.Test.YtdmodhnhldbpnaaGreatMah
import Derived.Test.YtdmodhnhldbpnaaGreatMak
import Derived.TacticsInMore
import Derived.Test.YtdmodhnhldbpnaaGreatAid
/- norm's builder over any arena: node, by kinds. -/
set_option linter.unusedSectionVars false
set_option linter.unusedSimpArgs false
set_option linter.unusedVariables false
set_option maxHeartbeats 16000000
set_option maxRecDepth 100000
namespace Go.Proofs.YtdmodhnhldbpnaaGreat
section
open Go.RowKit Go.Shelf
variable {D:List Nat->List Nat->Prop} {u:Value}
section
variable {AA:World->Value->List Nd->(Nat->Prop)->Prop}
theorem zsi (S:zaI AA) (k:Nat) (IH:zj2 D AA k):zfY D AA k 6:=by
 intro t w a ns F g kb ks rest hk h hb hgF hs hf hl hz
 have hA:At (w.alloc (Obj.cells t.cs.toArray 49)) w.heap.size 49 t.cs.toArray:=At.new _ _ _
 have hB:Below w.heap.size w (w.alloc (Obj.cells t.cs.toArray 49)):=zqb
 have hbW:BKs (w.alloc (Obj.cells t.cs.toArray 49)) g a F kb (ks++rest):=hb.next hB
 have cb:(w.alloc (Obj.cells t.cs.toArray 49)).cell? ⟨g,0,none⟩=some a:=hbW.cell
 have HI:=zqh (hs w (OffF.refl _ w))
 have hgp:zfM (fun p x=>zbZ D k p x) t.parts ks:=by unfold zbZ at hl;rwa [if_neg (by rw[hk];decide)] at hl
 obtain ⟨c0,c5,c6,c7,c8⟩:=At.tr_cell hA
 obtain ⟨s1,s2,s3,s4⟩:=At.tr_set hA
 rw[hk] at c0
 rw[HI.out.2.1.1] at c5
 obtain ⟨gp,rfl⟩:=S.ptr h
 have HA:=zqh h
 have HgF:=zqh hgF
 have HS:=zqh hs
 have HK:=zqh hk
 have HZ:=zqh hz
 have HFo:=zqh hf
 have HLo:=zqh hgp
 have HB:=zqh hB
 have HBW:=zqh hbW
 have HAt:=zqh hA
 have HT:Hid (∀w2,OffF (wg F g) (w.alloc (Obj.cells t.cs.toArray 49)) w2->w2.cell? ⟨g,0,none⟩=some (.pointer (some ⟨gp,0,none⟩))->zcm t gp g w.heap.size w2):=zqh (fun w2 ho hc=>zdc HI.out.2.1.1 (S.low h) hb.lt ho hc)
 have hT:zcm t gp g w.heap.size (w.alloc (Obj.cells t.cs.toArray 49)):=HT.out _ (OffF.refl _ _) hbW.cell
 have hsum:=zi4 hz
 have hfo:zch t=true/\t.parts.all (zah k)=true:=by
  have:(zch t&&t.parts.all (zah k))=true:=hf
  rw[qR] at this
  exact this
 have hfp:∀p∈t.parts,zah k p=true:=fun p hp=>List.all_eq_true.1 hfo.2 p hp
 have hzp:∀p∈t.parts,zam k p<=1000:=fun p hp=>by have h1:=zhG (k:=k) hp;have h2:=zep k p;omega
 have hnp:t.parts.length<=1000:=by
  by_cases h0:0<t.parts.length
  ·have h1:=zdb (k:=k) 0 h0 (fun p hp=>zeq (hfp p hp))
   have h2:=zeq (hfp _ (qG h0))
   omega
  ·omega
 have hln:t.parts.length=1:=by
  have:=hfo.1
  unfold zch zge at this
  have:=(jB this).2.1
  rw[hk] at this
  simp at this
  omega
 obtain ⟨p,hp⟩:∃p,t.parts=[p]:=by
  match q:t.parts,hln with
  | [p],_=>exact ⟨p,rfl⟩
 have hsp:zik (wg F g) w k t.addr [p]:=by have:=hs.parts;rw[hp] at this;exact this
 obtain ⟨b,off,ha,hblt,hr⟩:=(hsp w (OffF.refl _ w)).1 (by simp)
 have HRg:Hid (∀w2,OffF (wg F g) (w.alloc (Obj.cells t.cs.toArray 49)) w2->w2.rangeAt b off p.cs):=zqh (fun w2 ho=>by
  obtain ⟨b',off',ha',_,hr'⟩:=(hsp w2 ((OffF.of hB).off ho (fun b z=>Or.inl z))).1 (by simp)
  rw[ha] at ha'
  injection ha' with ha'
  injection ha' with e1 e2
  subst e1 e2
  have:=hr' 0 (by simp)
  simpa using this)
 have hR0:(w.alloc (Obj.cells t.cs.toArray 49)).rangeAt b off p.cs:=HRg.out _ (OffF.refl _ _)
 have hmp:p∈t.parts:=by rw[hp];simp
 have hgq:zbZ D k p ks:=by
  rw[hp] at hgp
  obtain ⟨x,y,rfl,h1,h2⟩:=hgp
  obtain rfl:y=[]:=h2
  rw[jA];exact h1
 have HNo:Hid (∀W',Below (w.alloc (Obj.cells t.cs.toArray 49)).heap.size (w.alloc (Obj.cells t.cs.toArray 49)) W'->Calls Tryz.prog 52 #[.pointer (some ⟨g,0,none⟩),.agg p.cs.toArray] W' (zej AA (w.alloc (Obj.cells t.cs.toArray 49)) (.pointer (some ⟨gp,0,none⟩)) ns F g kb rest (fun ms r=>zb4 D ms r (fun l=>zae l k p)))):=zqh (fun W' hb2=>(IH p g kb ks rest (S.next (S.next h hB) hb2) (hbW.next hb2) hgF ((hsp.part 0 (by simp)).step ((OffF.of hB).then hb2) (fun b q=>Or.inl q)) (hfp p hmp) hgq (hzp p hmp)).mono (fun _ _ g=>g.from hb2))
 have HP:=zqh hp
 have hln1:=hln
 clear hsum hfo hfp hzp hnp
 clear hln hsp hblt hr hmp hgq
 have hp1:=hp
 clear hp
 have hln:=hln1
 (try clear hpl0);clear h hb hgF hs hf hgp hl hz hk hB hbW hA
 clear IH hln1 c5 c6 c7 c8 s1 s2 s3 s4
 go_enter Tryz.func52,Tryz.ntmps52
 go_wp2_with fail
 refine wp_region_noPanic ?_
 refine wp_region_held_drew (S:=(fun w'=>zcm t gp g w.heap.size w'/\w'.rangeAt b off p.cs)) (by kernel_rfl) (by exact ⟨hT,hR0⟩) (fun hHeld=>?_)
 refine wpAnyH_take (i:=0) (oi:=⟨some 62,_,_,_,_,_⟩) (v:=?_) rfl (by kernel_rfl) (by kernel_rfl) (by kernel_rfl) (fun _ _ _ h=>h) (Or.inl ⟨by rfl,?_⟩) (by exact hHeld) ?_
 rotate_left
 ·(intro w hSw;(try dsimp only at hSw);go_simp;try (with_reducible rfl))
 simp only[Act.put,qA,qB,qC]
 refine wpAnyH_take (i:=1) (oi:=⟨some 63,_,_,_,_,_⟩) (v:=?_) rfl (by kernel_rfl) (by kernel_rfl) (by kernel_rfl) (fun _ _ _ h=>h) (Or.inl ⟨by rfl,?_⟩) (by exact hHeld) ?_
 rotate_left
 ·(intro w hSw;(try dsimp only at hSw);go_simp;try (with_reducible rfl))
 simp only[Act.put,qA,qB,qC]
 refine wpAnyH_take (i:=2) (oi:=⟨some 64,_,_,_,_,_⟩) (v:=?_) rfl (by kernel_rfl) (by kernel_rfl) (by kernel_rfl) (fun _ _ _ h=>h) (Or.inl ⟨by rfl,?_⟩) (by exact hHeld) ?_
 rotate_left
 ·(intro w hSw;(try dsimp only at hSw);go_simp;try (with_reducible rfl))
 simp only[Act.put,qA,qB,qC]
 refine wpAnyH_take (i:=3) (oi:=⟨some 65,_,_,_,_,_⟩) (v:=?_) rfl (by kernel_rfl) (by kernel_rfl) (by kernel_rfl) (fun _ _ _ h=>h) (Or.inl ⟨by rfl,?_⟩) (by exact hHeld) ?_
 rotate_left
 ·(intro w hSw;(try dsimp only at hSw);obtain ⟨⟨q0,q1,q2,q3,q4,q5,q6,q7⟩,q8⟩:=hSw;rw[ha,hln] at q5;go_simp;try (with_reducible rfl))
 simp only[Act.put,qA,qB,qC]
 refine wpAnyH_take (i:=4) (oi:=⟨some 66,_,_,_,_,_⟩) (v:=?_) rfl (by kernel_rfl) (by kernel_rfl) (by kernel_rfl) (fun _ _ _ h=>h) (Or.inl ⟨by rfl,?_⟩) (by exact hHeld) ?_
 rotate_left
 ·(intro w hSw;(try dsimp only at hSw);go_simp;try (with_reducible rfl))
 simp only[Act.put,qA,qB,qC]
 refine wpAnyH_take (i:=5) (oi:=⟨some 67,_,_,_,_,_⟩) (v:=?_) rfl (by kernel_rfl) (by kernel_rfl) (by kernel_rfl) (fun _ _ _ h=>h) (Or.inl ⟨by rfl,?_⟩) (by exact hHeld) ?_
 rotate_left
 ·(intro w hSw;(try dsimp only at hSw);go_simp;try (with_reducible rfl))
 simp only[Act.put,qA,qB,qC]
 refine wpAnyH_take (i:=6) (oi:=⟨some 68,_,_,_,_,_⟩) (v:=?_) rfl (by kernel_rfl) (by kernel_rfl) (by kernel_rfl) (fun _ _ _ h=>h) (Or.inl ⟨by rfl,?_⟩) (by exact hHeld) ?_
 rotate_left
 ·(intro w hSw;(try dsimp only at hSw);obtain ⟨⟨q0,q1,q2,q3,q4,q5,q6,q7⟩,q8⟩:=hSw;rw[ha,hln] at q5;go_simp;try (with_reducible rfl))
 simp only[Act.put,qA,qB,qC]
 refine wpAnyH_take (i:=7) (oi:=⟨some 69,_,_,_,_,_⟩) (v:=?_) rfl (by kernel_rfl) (by kernel_rfl) (by kernel_rfl) (fun _ _ _ h=>h) (Or.inl ⟨by rfl,?_⟩) (by exact hHeld) ?_
 rotate_left
 ·(intro w hSw;(try dsimp only at hSw);go_simp;try (with_reducible rfl))
 simp only[Act.put,qA,qB,qC]
 refine wpAnyH_take (i:=8) (oi:=⟨some 70,_,_,_,_,_⟩) (v:=_) rfl (by kernel_rfl) (by kernel_rfl) (by kernel_rfl) (fun _ _ _ h=>h) (yieldsIf_load_mid (by rfl) 49 _ rfl b off rfl p.cs _ (fun _ h=>h.2) Tryz.underlying49 rfl (by rw[Tr.cs_length];kernel_rfl)) (by exact hHeld) ?_
 simp only[Act.put,qA,qB,qC]
 refine wpAnyH_ready (rs:=[9]) (by kernel_rfl) (by simp) ?_
 refine AllReadyH.cons (o:=⟨some 71,_,_,_,_,_⟩) rfl (fun K hK=>?_) AllReadyH.nil
 go_simp
 ((with_reducible refine (HNo.out _ (qT _ _).drew).mono ?_))
 rintro e w2 ⟨x,more,F',rfl,n3,n4,n5,nb,n7⟩
 have HgF2:Hid (¬F' g):=zqh (fun z=>by rcases n4 _ z with z | z;exact HgF.out z;have:=HBW.out.lt;omega)
 have HNb:=zqh nb
 obtain ⟨u2,hba2,hkr2⟩:=id nb
 clear hkr2
 have hT:zcm t gp g w.heap.size w2:=HT.out _ n5 nb.cell
 have hR0:=HRg.out _ n5
 have HJ:=zqh (zu2 S.toArenaAny x n3 (n7.imp id (fun q=>q.1)))
 have HW1:=zqh n4
 have HW2:=zqh n5
 have HW4:=zqh n7
 clear n3 n4 n5 n7 nb hba2
 dsimp only
 refine hK.out _ _ ?_ (fun hHeld=>?_)
 ·exact ⟨hT,hR0⟩
 clear hK K
 try simp only[Act.put,qA,qB,qC]
 refine wpAnyH_ready (rs:=[10]) (by kernel_rfl) (by simp) ?_
 refine AllReadyH.cons (o:=⟨some 72,_,_,_,_,_⟩) rfl (fun K hK=>?_) AllReadyH.nil
 go_simp
 ((with_reducible refine HJ.out.mono ?_))
 rintro e w3 gg
 obtain ⟨r,_,F2,rfl,_,g2,g3,_⟩:=id gg
 have HG:=zqh (zej.from (w1:=(w.alloc (Obj.cells t.cs.toArray 49))) (zej.then HW1.out HW2.out HNb.out HgF2.out (gg.mono (R':=fun ms r=>zb4 D ms r (fun l=>zae l (k+1) t)) (fun more2 r q hfi hi=>by
  have e:(fun l=>zae l (k+1) t)=(fun l=>zaW (zae l k p)):=by funext l;show (if _ then _ else _)=_;simp[HK.out,HP.out]
  rw[e]
  rcases HW4.out with z | z
  ·exact absurd (z▸q.1) zeD
  ·exact ztP hfi (q.1.up more2) q.2 (z.2.up z.1 more2)) S.toArenaMid)) HB.out)
 have hT:zcm t gp g w.heap.size w3:=HT.out _ (HW2.out.off (g3.wg g) (zeo HW1.out)) (HNb.out.off HgF2.out g3 g2).cell
 have hR0:=HRg.out _ (HW2.out.off (g3.wg g) (zeo HW1.out))
 clear g2 g3 gg
 dsimp only
 refine hK.out _ _ ?_ (fun hHeld=>?_)
 ·exact ⟨hT,hR0⟩
 clear hK K
 try simp only[Act.put,qA,qB,qC]
 refine wpAnyH_take (i:=11) (oi:=⟨some 4,_,_,_,_,_⟩) (v:=?_) rfl (by kernel_rfl) (by kernel_rfl) (by kernel_rfl) (fun _ _ _ h=>h) (Or.inl ⟨by rfl,?_⟩) (by exact hHeld) ?_
 rotate_left
 ·(intro w hSw;(try dsimp only at hSw);go_simp;try (with_reducible rfl))
 simp only[Act.put,qA,qB,qC]
 refine wpAnyH_done (by kernel_rfl) ?_ _
 refine NoPanic.normal ?_
 go_wp2_with fail
 go_ret
 exact HG.out
theorem zsj (S:zaI AA) (k:Nat) (IH:zj2 D AA k) (HTi:znD D AA):zfY D AA k 7:=by
 intro t w a ns F g kb ks rest hk h hb hgF hs hf hl hz
 have hA:At (w.alloc (Obj.cells t.cs.toArray 49)) w.heap.size 49 t.cs.toArray:=At.new _ _ _
 have hB:Below w.heap.size w (w.alloc (Obj.cells t.cs.toArray 49)):=zqb
 have hbW:BKs (w.alloc (Obj.cells t.cs.toArray 49)) g a F kb (ks++rest):=hb.next hB
 have cb:(w.alloc (Obj.cells t.cs.toArray 49)).cell? ⟨g,0,none⟩=some a:=hbW.cell
 have HI:=zqh (hs w (OffF.refl _ w))
 have hgp:zfM (fun p x=>zbZ D k p x) t.parts ks:=by unfold zbZ at hl;rwa [if_neg (by rw[hk];decide)] at hl
 obtain ⟨c0,c5,c6,c7,c8⟩:=At.tr_cell hA
 obtain ⟨s1,s2,s3,s4⟩:=At.tr_set hA
 rw[hk] at c0
 rw[HI.out.2.1.1] at c5
 obtain ⟨gp,rfl⟩:=S.ptr h
 have HA:=zqh h
 have HgF:=zqh hgF
 have HS:=zqh hs
 have HK:=zqh hk
 have HZ:=zqh hz
 have HFo:=zqh hf
 have HLo:=zqh hgp
 have HB:=zqh hB
 have HBW:=zqh hbW
 have HAt:=zqh hA
 have HT:Hid (∀w2,OffF (wg F g) (w.alloc (Obj.cells t.cs.toArray 49)) w2->w2.cell? ⟨g,0,none⟩=some (.pointer (some ⟨gp,0,none⟩))->zcm t gp g w.heap.size w2):=zqh (fun w2 ho hc=>zdc HI.out.2.1.1 (S.low h) hb.lt ho hc)
 have hT:zcm t gp g w.heap.size (w.alloc (Obj.cells t.cs.toArray 49)):=HT.out _ (OffF.refl _ _) hbW.cell
 have hsum:=zi4 hz
 have hfo:zch t=true/\t.parts.all (zah k)=true:=by
  have:(zch t&&t.parts.all (zah k))=true:=hf
  rw[qR] at this
  exact this
 have hfp:∀p∈t.parts,zah k p=true:=fun p hp=>List.all_eq_true.1 hfo.2 p hp
 have hzp:∀p∈t.parts,zam k p<=1000:=fun p hp=>by have h1:=zhG (k:=k) hp;have h2:=zep k p;omega
 have hnp:t.parts.length<=1000:=by
  by_cases h0:0<t.parts.length
  ·have h1:=zdb (k:=k) 0 h0 (fun p hp=>zeq (hfp p hp))
   have h2:=zeq (hfp _ (qG h0))
   omega
  ·omega
 have htf:zba t:=by
  have:=hfo.1
  unfold zch at this
  exact (jB this).2.2.2.2.2 hk
 have hln:t.parts.length=1:=by
  have:=hfo.1
  unfold zch zge at this
  have:=(jB this).2.1
  rw[hk] at this
  simp at this
  omega
 obtain ⟨p,hp⟩:∃p,t.parts=[p]:=by
  match q:t.parts,hln with
  | [p],_=>exact ⟨p,rfl⟩
 have hsp:zik (wg F g) w k t.addr [p]:=by have:=hs.parts;rw[hp] at this;exact this
 obtain ⟨b,off,ha,hblt,hr⟩:=(hsp w (OffF.refl _ w)).1 (by simp)
 have HRg:Hid (∀w2,OffF (wg F g) (w.alloc (Obj.cells t.cs.toArray 49)) w2->w2.rangeAt b off p.cs):=zqh (fun w2 ho=>by
  obtain ⟨b',off',ha',_,hr'⟩:=(hsp w2 ((OffF.of hB).off ho (fun b z=>Or.inl z))).1 (by simp)
  rw[ha] at ha'
  injection ha' with ha'
  injection ha' with e1 e2
  subst e1 e2
  have:=hr' 0 (by simp)
  simpa using this)
 have hR0:(w.alloc (Obj.cells t.cs.toArray 49)).rangeAt b off p.cs:=HRg.out _ (OffF.refl _ _)
 have hmp:p∈t.parts:=by rw[hp];simp
 have hgq:zbZ D k p ks:=by
  rw[hp] at hgp
  obtain ⟨x,y,rfl,h1,h2⟩:=hgp
  obtain rfl:y=[]:=h2
  rw[jA];exact h1
 have HNo:Hid (∀W',Below (w.alloc (Obj.cells t.cs.toArray 49)).heap.size (w.alloc (Obj.cells t.cs.toArray 49)) W'->Calls Tryz.prog 52 #[.pointer (some ⟨g,0,none⟩),.agg p.cs.toArray] W' (zej AA (w.alloc (Obj.cells t.cs.toArray 49)) (.pointer (some ⟨gp,0,none⟩)) ns F g kb rest (fun ms r=>zb4 D ms r (fun l=>zae l k p)))):=zqh (fun W' hb2=>(IH p g kb ks rest (S.next (S.next h hB) hb2) (hbW.next hb2) hgF ((hsp.part 0 (by simp)).step ((OffF.of hB).then hb2) (fun b q=>Or.inl q)) (hfp p hmp) hgq (hzp p hmp)).mono (fun _ _ g=>g.from hb2))
 have HP:=zqh hp
 have HTf:=zqh htf
 have hln1:=hln
 clear hsum hfo hfp hzp hnp htf
 clear hln hsp hblt hr hmp hgq
 have hp1:=hp
 clear hp
 have hln:=hln1
 (try clear hpl0);clear h hb hgF hs hf hgp hl hz hk hB hbW hA
 clear IH hln1 c5 c6 c7 c8 s1 s2 s3 s4
 go_enter Tryz.func52,Tryz.ntmps52
 go_wp2_with fail
 refine wp_region_noPanic ?_
 refine wp_region_held_drew (S:=(fun w'=>zcm t gp g w.heap.size w'/\w'.rangeAt b off p.cs)) (by kernel_rfl) (by exact ⟨hT,hR0⟩) (fun hHeld=>?_)
 refine wpAnyH_take (i:=0) (oi:=⟨some 75,_,_,_,_,_⟩) (v:=?_) rfl (by kernel_rfl) (by kernel_rfl) (by kernel_rfl) (fun _ _ _ h=>h) (Or.inl ⟨by rfl,?_⟩) (by exact hHeld) ?_
 rotate_left
 ·(intro w hSw;(try dsimp only at hSw);go_simp;try (with_reducible rfl))
 simp only[Act.put,qA,qB,qC]
 refine wpAnyH_take (i:=1) (oi:=⟨some 76,_,_,_,_,_⟩) (v:=?_) rfl (by kernel_rfl) (by kernel_rfl) (by kernel_rfl) (fun _ _ _ h=>h) (Or.inl ⟨by rfl,?_⟩) (by exact hHeld) ?_
 rotate_left
 ·(intro w hSw;(try dsimp only at hSw);go_simp;try (with_reducible rfl))
 simp only[Act.put,qA,qB,qC]
 refine wpAnyH_take (i:=2) (oi:=⟨some 77,_,_,_,_,_⟩) (v:=?_) rfl (by kernel_rfl) (by kernel_rfl) (by kernel_rfl) (fun _ _ _ h=>h) (Or.inl ⟨by rfl,?_⟩) (by exact hHeld) ?_
 rotate_left
 ·(intro w hSw;(try dsimp only at hSw);go_simp;try (with_reducible rfl))
 simp only[Act.put,qA,qB,qC]
 refine wpAnyH_take (i:=3) (oi:=⟨some 78,_,_,_,_,_⟩) (v:=?_) rfl (by kernel_rfl) (by kernel_rfl) (by kernel_rfl) (fun _ _ _ h=>h) (Or.inl ⟨by rfl,?_⟩) (by exact hHeld) ?_
 rotate_left
 ·(intro w hSw;(try dsimp only at hSw);obtain ⟨⟨q0,q1,q2,q3,q4,q5,q6,q7⟩,q8⟩:=hSw;rw[ha,hln] at q5;go_simp;try (with_reducible rfl))
 simp only[Act.put,qA,qB,qC]
 refine wpAnyH_take (i:=4) (oi:=⟨some 79,_,_,_,_,_⟩) (v:=?_) rfl (by kernel_rfl) (by kernel_rfl) (by kernel_rfl) (fun _ _ _ h=>h) (Or.inl ⟨by rfl,?_⟩) (by exact hHeld) ?_
 rotate_left
 ·(intro w hSw;(try dsimp only at hSw);go_simp;try (with_reducible rfl))
 simp only[Act.put,qA,qB,qC]
 refine wpAnyH_take (i:=5) (oi:=⟨some 80,_,_,_,_,_⟩) (v:=_) rfl (by kernel_rfl) (by kernel_rfl) (by kernel_rfl) (fun _ _ _ h=>h) (yieldsIf_load_mid (by rfl) 49 _ rfl b off rfl p.cs _ (fun _ h=>h.2) Tryz.underlying49 rfl (by rw[Tr.cs_length];kernel_rfl)) (by exact hHeld) ?_
 simp only[Act.put,qA,qB,qC]
 refine wpAnyH_take (i:=7) (oi:=⟨some 82,_,_,_,_,_⟩) (v:=?_) rfl (by kernel_rfl) (by kernel_rfl) (by kernel_rfl) (fun _ _ _ h=>h) (Or.inl ⟨by rfl,?_⟩) (by exact hHeld) ?_
 rotate_left
 ·(intro w hSw;(try dsimp only at hSw);go_simp;try (with_reducible rfl))
 simp only[Act.put,qA,qB,qC]
 refine wpAnyH_take (i:=8) (oi:=⟨some 83,_,_,_,_,_⟩) (v:=?_) rfl (by kernel_rfl) (by kernel_rfl) (by kernel_rfl) (fun _ _ _ h=>h) (Or.inl ⟨by rfl,?_⟩) (by exact hHeld) ?_
 rotate_left
 ·(intro w hSw;(try dsimp only at hSw);obtain ⟨⟨q0,q1,q2,q3,q4,q5,q6,q7⟩,q8⟩:=hSw;rw[ha,hln] at q5;go_simp;try (with_reducible rfl))
 simp only[Act.put,qA,qB,qC]
 refine wpAnyH_take (i:=9) (oi:=⟨some 84,_,_,_,_,_⟩) (v:=?_) rfl (by kernel_rfl) (by kernel_rfl) (by kernel_rfl) (fun _ _ _ h=>h) (Or.inl ⟨by rfl,?_⟩) (by exact hHeld) ?_
 rotate_left
 ·(intro w hSw;(try dsimp only at hSw);go_simp;try (with_reducible rfl))
 simp only[Act.put,qA,qB,qC]
 refine wpAnyH_take (i:=10) (oi:=⟨some 85,_,_,_,_,_⟩) (v:=?_) rfl (by kernel_rfl) (by kernel_rfl) (by kernel_rfl) (fun _ _ _ h=>h) (Or.inl ⟨by rfl,?_⟩) (by exact hHeld) ?_
 rotate_left
 ·(intro w hSw;(try dsimp only at hSw);obtain ⟨⟨q0,q1,q2,q3,q4,q5,q6,q7⟩,q8⟩:=hSw;rw[ha,hln] at q5;go_simp;try (with_reducible rfl))
 simp only[Act.put,qA,qB,qC]
 refine wpAnyH_ready (rs:=[6]) (by kernel_rfl) (by simp) ?_
 refine AllReadyH.cons (o:=⟨some 81,_,_,_,_,_⟩) rfl (fun K hK=>?_) AllReadyH.nil
 go_simp
 ((with_reducible refine (HNo.out _ (qT _ _).drew).mono ?_))
 rintro e w2 ⟨x,more,F',rfl,n3,n4,n5,nb,n7⟩
 have HgF2:Hid (¬F' g):=zqh (fun z=>by rcases n4 _ z with z | z;exact HgF.out z;have:=HBW.out.lt;omega)
 have HNb:=zqh nb
 obtain ⟨u2,hba2,hkr2⟩:=id nb
 clear hkr2
 have hT:zcm t gp g w.heap.size w2:=HT.out _ n5 nb.cell
 have hR0:=HRg.out _ n5
 have HJ:=zqh (HTi g x t.lo t.hi n3 hba2 HgF2.out (n7.imp id (fun q=>q.1)) (n7.imp id (fun q=>q.2)) HTf.out)
 have HW1:=zqh n4
 have HW2:=zqh n5
 have HW4:=zqh n7
 clear n3 n4 n5 n7 nb hba2
 dsimp only
 refine hK.out _ _ ?_ (fun hHeld=>?_)
 ·exact ⟨hT,hR0⟩
 clear hK K
 try simp only[Act.put,qA,qB,qC]
 refine wpAnyH_ready (rs:=[11]) (by kernel_rfl) (by simp) ?_
 refine AllReadyH.cons (o:=⟨some 86,_,_,_,_,_⟩) rfl (fun K hK=>?_) AllReadyH.nil
 go_simp
 ((with_reducible refine HJ.out.mono ?_))
 rintro e w3 gg
 obtain ⟨r,_,F2,rfl,_,g2,g3,_⟩:=id gg
 have HG:=zqh (zej.from (w1:=(w.alloc (Obj.cells t.cs.toArray 49))) (zej.then HW1.out HW2.out HNb.out HgF2.out (gg.mono (R':=fun ms r=>zb4 D ms r (fun l=>zae l (k+1) t)) (fun more2 r q hfi hi=>by
  have e:(fun l=>zae l (k+1) t)=(fun l=>zcI (zae l k p) (l.length+1) t.lo.toNat t.hi):=by funext l;show (if _ then _ else _)=_;simp[HK.out,HP.out]
  rw[e]
  exact q) S.toArenaMid)) HB.out)
 have hT:zcm t gp g w.heap.size w3:=HT.out _ (HW2.out.off (g3.wg g) (zeo HW1.out)) (HNb.out.off HgF2.out g3 g2).cell
 have hR0:=HRg.out _ (HW2.out.off (g3.wg g) (zeo HW1.out))
 clear g2 g3 gg
 dsimp only
 refine hK.out _ _ ?_ (fun hHeld=>?_)
 ·exact ⟨hT,hR0⟩
 clear hK K
 try simp only[Act.put,qA,qB,qC]
 refine wpAnyH_take (i:=12) (oi:=⟨some 4,_,_,_,_,_⟩) (v:=?_) rfl (by kernel_rfl) (by kernel_rfl) (by kernel_rfl) (fun _ _ _ h=>h) (Or.inl ⟨by rfl,?_⟩) (by exact hHeld) ?_
 rotate_left
 ·(intro w hSw;(try dsimp only at hSw);go_simp;try (with_reducible rfl))
 simp only[Act.put,qA,qB,qC]
 refine wpAnyH_done (by kernel_rfl) ?_ _
 refine NoPanic.normal ?_
 go_wp2_with fail
 go_ret
 exact HG.out
end
end

section
open Go.RowKit Go.Shelf
variable {D:List Nat->List Nat->Prop} {u:Value}
section
variable {AA:World->Value->List Nd->(Nat->Prop)->Prop}
theorem BKs.cut {w:World} {g kb:Nat} {a:Value} {F:Nat->Prop} {n:Int} {rest:List Int} {c off:Nat} (hlc:rest.length+1<=c) (h:BAt w g a (.slice (some ⟨kb,off,none⟩) (rest.length+1) c)) (hr:zq1 w (wg F g) kb (.slice (some ⟨kb,off,none⟩) (rest.length+1) c) (n::rest)) (hkg:kb≠g) (hc:∀j (hj:j<rest.length),w.cell? ⟨kb,off+1+j,none⟩=some (.int .i64 rest[j])) :
  BKs (w.setCell ⟨g,1,none⟩ (.slice (some ⟨kb,off+1,none⟩) rest.length (c-1))) g a F kb rest:=by
 refine ⟨_,h.set 1 _,by rw[jC];exact hr.1,_,_,rfl,by omega,fun h0=>⟨off+1,rfl,?_,fun j hj=>?_⟩⟩
 ·obtain ⟨_,_,_,_,_,q⟩:=hr
  obtain ⟨_,_,z,_⟩:=q (by simp)
  exact z
 ·rw[yA (w:=w) (jL w ⟨g,1,none⟩ _ kb (fun e=>hkg e))]
  exact hc j hj
theorem zt0 (S:zaI AA) {w:World} {a:Value} {ns:List Nd} {F:Nat->Prop} (g kb:Nat) (n:Int) (rest:List Int) (neg:Bool) (h:AA w a ns F) (hb:BKs w g a F kb (n::rest)) (hgF:¬F g) (hn:0<=n/\n<4) :
  Calls Tryz.prog 91 #[.pointer (some ⟨g,0,none⟩),.bool neg] w (zej AA w a ns F g kb rest fun ms r=>zaQ ms r.toNat=⟨8,zbn,n,0,neg⟩):=by
 obtain ⟨v,hba,hr⟩:=hb
 obtain ⟨hkb,A,c,rfl,hlc,hrow⟩:=id hr
 obtain ⟨off,rfl,hx,hcs⟩:=hrow (by simp)
 have hkg:kb≠g:=fun e=>hx (Or.inr e)
 obtain ⟨gp,rfl⟩:=S.ptr h
 have c0:=At.cell hba 0
 have c1:=At.cell hba 1
 have f1:=At.free hba 1
 have k0:w.cell? ⟨kb,off,none⟩=some (.int .i64 n):=hcs 0 (by simp)
 have hlen:(n::rest).length=rest.length+1:=rfl
 rw[hlen] at hba hr c0 c1
 have hlc:rest.length+1<=c:=hlc
 have hcut:=BKs.cut hlc hba hr hkg (fun j hj=>by
  have:=hcs (j+1) (by simpa using hj)
  rw[show off+1+j=off+(j+1) by omega,this]
  simp)
 by_cases h1:c=1
 ·subst h1
  obtain rfl:rest=[]:=qU (by omega)
  have hcut:BKs (w.setCell ⟨g,1,none⟩ (.slice (some ⟨kb,off,none⟩) 0 0)) g (.pointer (some ⟨gp,0,none⟩)) F kb []:=⟨_,hba.set 1 _,by rw[jC];exact hkb,_,_,rfl,qL _,fun h=>absurd h (jM 0)⟩
  obtain ⟨w1,hw1⟩:∃w1,w1=w.setCell ⟨g,1,none⟩ (.slice (some ⟨kb,off,none⟩) 0 0):=⟨_,rfl⟩
  have hoff1:OffF (wg F g) w w1:=by
   rw[hw1]
   exact ⟨rfl,rfl,rfl,by rw[jC];exact qL _,fun b hb hn=>jL w ⟨g,1,none⟩ _ b (fun e=>hn (Or.inr e))⟩
  have hk1:BKs w1 g (.pointer (some ⟨gp,0,none⟩)) F kb []:=by rw[hw1];exact hcut
  have hA1:AA w1 (.pointer (some ⟨gp,0,none⟩)) ns F:=S.keep h (fun b hb=>by rw[hw1];exact jL w ⟨g,1,none⟩ _ b (fun e=>hgF ((show b=g from e)▸hb)))
  have HL:=zqh (ztW S.toArenaAny n neg hA1 hn)
  have HK1:=zqh hk1
  have HO1:=zqh hoff1
  have HgF:=zqh hgF
  have HW1:=zqh hw1
  have c10:=hk1.cell
  clear h hr hrow hcs hcut hoff1 hk1 hA1 hx hgF hw1 hba hkb hkg hn hlen hlc
  go_enter Tryz.func91,Tryz.ntmps91
  go_wp2_with fail
  rw[<-HW1.out]
  refine HL.out.mono ?_
  rintro e w2 ⟨r,more,F',rfl,g1,g2,g3,g4⟩
  have HG:Hid (zej AA w (.pointer (some ⟨gp,0,none⟩)) ns F g kb [] (fun ms r=>zaQ ms r.toNat=⟨8,zbn,n,0,neg⟩) (.returned (.int .i64 r)) w2):=zqh ⟨r,more,F',rfl,g1,fun b q=>(by
   rcases g2 b q with z | z
   ·exact Or.inl z
   ·rw[HW1.out,jC] at z;exact Or.inr z),HO1.out.off (g3.wg g) (fun b q=>Or.inl q),HK1.out.off HgF.out g3 g2,g4⟩
  clear g1 g2 g3 g4
  go_wp2_with fail
  go_ret
  exact HG.out
 ·have hc1:¬c-1=0:=by omega
  have hc2:¬c=1:=h1
  obtain ⟨w1,hw1⟩:∃w1,w1=w.setCell ⟨g,1,none⟩ (.slice (some ⟨kb,off+1,none⟩) rest.length (c-1)):=⟨_,rfl⟩
  have hoff1:OffF (wg F g) w w1:=by
   rw[hw1]
   exact ⟨rfl,rfl,rfl,by rw[jC];exact qL _,fun b hb hn=>jL w ⟨g,1,none⟩ _ b (fun e=>hn (Or.inr e))⟩
  have hk1:BKs w1 g (.pointer (some ⟨gp,0,none⟩)) F kb rest:=by rw[hw1];exact hcut
  have hA1:AA w1 (.pointer (some ⟨gp,0,none⟩)) ns F:=S.keep h (fun b hb=>by rw[hw1];exact jL w ⟨g,1,none⟩ _ b (fun e=>hgF ((show b=g from e)▸hb)))
  have HL:=zqh (ztW S.toArenaAny n neg hA1 hn)
  have HK1:=zqh hk1
  have HO1:=zqh hoff1
  have HgF:=zqh hgF
  have HW1:=zqh hw1
  have c10:=hk1.cell
  clear h hr hrow hcs hcut hoff1 hk1 hA1 hx hgF hw1 hba hkb hkg hn hlen hlc
  go_enter Tryz.func91,Tryz.ntmps91
  go_wp2_with fail
  rw[<-HW1.out]
  refine HL.out.mono ?_
  rintro e w2 ⟨r,more,F',rfl,g1,g2,g3,g4⟩
  have HG:Hid (zej AA w (.pointer (some ⟨gp,0,none⟩)) ns F g kb rest (fun ms r=>zaQ ms r.toNat=⟨8,zbn,n,0,neg⟩) (.returned (.int .i64 r)) w2):=zqh ⟨r,more,F',rfl,g1,fun b q=>(by
   rcases g2 b q with z | z
   ·exact Or.inl z
   ·rw[HW1.out,jC] at z;exact Or.inr z),HO1.out.off (g3.wg g) (fun b q=>Or.inl q),HK1.out.off HgF.out g3 g2,g4⟩
  clear g1 g2 g3 g4
  go_wp2_with fail
  go_ret
  exact HG.out
theorem zlZ {l:List Nat} {k:Nat} {t:Tr} (h8:8<=t.kind/\t.kind<=11) (hneg:t.kind=10\/t.kind=11->t.neg=false) {i j:Nat} (hi:i<l.length+1) (hj:j<l.length+1):zae l (k+1) t i j=(decide (i=j)&&(zae l (k+1) (zpm t) i i != t.neg)):=by
 obtain ⟨kd,s,A,n,c,ps,lo,hi',neg⟩:=t
 have h8':8<=kd/\kd<=11:=h8
 have hneg':kd=10\/kd=11->neg=false:=hneg
 have hk:kd=8\/kd=9\/kd=10\/kd=11:=by omega
 rcases hk with rfl | rfl | rfl | rfl
 ·show zdj ((ps.map (zae l k)).headD noF) (l.length+1) false neg i j=(decide (i=j)&&(zdj ((ps.map (zae l k)).headD noF) (l.length+1) false false i i != neg))
  generalize (ps.map (zae l k)).headD noF=fa
  unfold zdj
  by_cases e:i=j
  ·rw[if_pos e,if_pos rfl,qD e];cases neg<;>simp
  ·rw[if_neg e,qE e];rfl
 ·show zdj ((ps.map (zae l k)).headD noF) (l.length+1) true neg i j=(decide (i=j)&&(zdj ((ps.map (zae l k)).headD noF) (l.length+1) true false i i != neg))
  generalize (ps.map (zae l k)).headD noF=fa
  unfold zdj
  by_cases e:i=j
  ·rw[if_pos e,if_pos rfl,qD e];cases neg<;>simp
  ·rw[if_neg e,qE e];rfl
 ·rw[show (Tr.node 10 s A n c ps lo hi' neg).neg=false from hneg' (Or.inl rfl)]
  show zcR l i j=(decide (i=j)&&(zcR l i i != false))
  unfold zcR
  simp
 ·rw[show (Tr.node 11 s A n c ps lo hi' neg).neg=false from hneg' (Or.inr rfl)]
  show zjG l i j=(decide (i=j)&&(zjG l i i != false))
  unfold zjG
  simp
theorem zsk {ns:List Nd} (hc:zaA ns) {r n:Int} {k:Nat} {t:Tr} (hr:zac ns r) (hnd:zaQ ns r.toNat=⟨8,zbn,n,0,t.neg⟩) (h8:8<=t.kind/\t.kind<=11) (hneg:t.kind=10\/t.kind=11->t.neg=false) (hl:ztZ D (k+1) t n):zb4 D ns r (fun l=>zae l (k+1) t):=fun l bits hb h6 hd i j hi hj=>by
 have hk:kd ns r=8:=by unfold kd;rw[hnd]
 have ha:ka ns r=n:=by unfold ka;rw[hnd]
 rw[zhw hc hr hk,ha,hnd]
 show zoT bits n.toNat t.neg i j=zae l (k+1) t i j
 rw[zlZ h8 hneg hi hj]
 have h:=hl.2.2 l bits hb h6 hd i hi
 unfold zoT at h ⊢
 rw[<-h]
 simp
theorem zl0 (S:zaI AA) (k:Nat) (t:Tr) {w:World} {a:Value} {ns:List Nd} {F:Nat->Prop} (g kb:Nat) (ks rest:List Int) (hk:8<=t.kind) (h:AA w a ns F) (hb:BKs w g a F kb (ks++rest)) (hgF:¬F g) (hf:zah (k+1) t=true) (hl:zbZ D (k+1) t ks) :
  Calls Tryz.prog 52 #[.pointer (some ⟨g,0,none⟩),.agg t.cs.toArray] w (zej AA w a ns F g kb rest (fun ms r=>zb4 D ms r (fun l=>zae l (k+1) t))):=by
 have hfo:=zck hf
 have hkd:t.kind<=11:=by unfold zch at hfo;exact (jB hfo).1.2
 have hneg:t.kind=10\/t.kind=11->t.neg=false:=fun q=>by
  unfold zch at hfo
  rcases (jB hfo).2.2.2.1 with z | z | z
  ·omega
  ·omega
  ·exact z
 unfold zbZ at hl
 rw[if_pos hk] at hl
 obtain ⟨n,rfl,hld⟩:=hl
 have hA:At (w.alloc (Obj.cells t.cs.toArray 49)) w.heap.size 49 t.cs.toArray:=At.new _ _ _
 have hB:Below w.heap.size w (w.alloc (Obj.cells t.cs.toArray 49)):=zqb
 obtain ⟨c0,c5,c6,c7,c8⟩:=At.tr_cell hA
 have HL:=zqh (zt0 S g kb n rest t.neg (S.next h hB) (hb.next hB) hgF ⟨hld.1,hld.2.1⟩)
 have HB:=zqh hB
 have HLd:=zqh hld
 have HK:=zqh (And.intro hk hkd)
 have HNg:=zqh hneg
 have d0:=(zab (show ¬t.kind=0 by omega)).1
 have d1:=(zab (show ¬t.kind=1 by omega)).1
 have d2:=(zab (show ¬t.kind=2 by omega)).1
 have d3:=(zab (show ¬t.kind=3 by omega)).1
 have d4:=(zab (show ¬t.kind=4 by omega)).1
 have d5:=(zab (show ¬t.kind=5 by omega)).1
 have d6:=(zab (show ¬t.kind=6 by omega)).1
 have d7:=(zab (show ¬t.kind=7 by omega)).1
 clear h hb hgF hf hfo hkd hneg hld hA hB hk c5 c6 c7
 go_enter Tryz.func52,Tryz.ntmps52
 go_wp2_with fail
 refine HL.out.mono ?_
 rintro e w2 gg
 obtain ⟨r,_,_,rfl,_⟩:=id gg
 have HG:=zqh (zej.from (gg.mono (R':=fun ms r=>zb4 D ms r (fun l=>zae l (k+1) t)) (fun more r q hfi hi=>zsk hfi hi q HK.out HNg.out HLd.out) S.toArenaMid) HB.out)
 clear gg
 go_wp2_with fail
 go_ret
 exact HG.out
theorem zt1 (S:zaI AA) (HTi:znD D AA):∀k,zj2 D AA k
 | 0=>fun t w a ns F g kb ks rest h hb hgF hs hf=>by cases hf
 | k+1=>fun t w a ns F g kb ks rest h hb hgF hs hf hl hz=>by
  have IH:=@zt1 S @HTi k
  have hfo:zch t=true:=by
   have:(zch t&&t.parts.all (zah k))=true:=hf
   rw[qR] at this
   exact this.1
  have hkd:0<=t.kind/\t.kind<=11:=by
   unfold zch at hfo
   exact (jB hfo).1
  by_cases h8:8<=t.kind
  ·exact zl0 S k t g kb ks rest h8 h hb hgF hf hl
  have hks:t.kind=0\/t.kind=1\/t.kind=2\/t.kind=3\/t.kind=4\/t.kind=5\/t.kind=6\/t.kind=7:=by omega
  rcases hks with e | e | e | e | e | e | e | e
  ·exact zr7 S k t g kb ks rest e h hb hgF hs hf hl hz
  ·exact zr8 S k t g kb ks rest e h hb hgF hs hf hl hz
  ·exact zr9 S k t g kb ks rest e h hb hgF hs hf hl hz
  ·exact zsa S k @IH t g kb ks rest e h hb hgF hs hf hl hz
  ·exact zsb S k @IH t g kb ks rest e h hb hgF hs hf hl hz
  ·exact zsc S k @IH t g kb ks rest e h hb hgF hs hf hl hz
  ·exact zsi S k @IH t g kb ks rest e h hb hgF hs hf hl hz
  ·exact zsj S k @IH @HTi t g kb ks rest e h hb hgF hs hf hl hz
end
end

section
open Go.RowKit
theorem zsl:∀W,(binOp .eql 85 .nilFunc .nilFunc).run Tryz.prog W=.ok (.bool true) W:=fun W=>by
 rfl
theorem zf8 {fn:Func} {p:Tmp} (h:fn.results=#[.cell p 3]) {tmps:Array Value} {w:World} {a:Addr} {x:Int} (hp:tmps.getD p undef=.pointer (some a)) (hc:w.cell? a=some (.int .i64 x)):(results fn tmps).run Tryz.prog w=.ok (.int .i64 x) w:=by
 unfold results
 rw[h]
 rw[Array.getD_eq_getD_getElem?] at hp
 simp[hp,hc,go_sem]
theorem zsm (t:Tr) (w:World):Calls Tryz.prog 82 #[.nilFunc,.agg t.cs.toArray] w fun e w'=>e=.returned (.int .i64 (-1))/\Below w.heap.size w w':=by
 have hB:Below w.heap.size w ((w.alloc (.cells t.cs.toArray 49)).alloc (.cells #[.int .i64 (-1)] 3)):=(zqb).alloc (by simp) _
 have hq:=zsl
 go_enter_defers Tryz.func82,Tryz.ntmps82
 go_wp2_with fail
 refine ⟨.int .i64 (-1),zf8 (a:=⟨w.heap.size+1,0,none⟩) rfl rfl ?_,rfl,hB⟩
 have:=(At.new (w.alloc (.cells t.cs.toArray 49)) 3 #[.int .i64 (-1)]).cell 0
 rw[qV] at this
 exact this
def zsn (k:Nat):Prop:=∀(t:Tr) (w:World),Tr.In w k t->zah k t=true->Calls Tryz.prog 51 #[.slice none 0 0,.agg t.cs.toArray,.nilFunc] w fun e w'=>∃v,e=.returned (.tuple #[v,.bool (!zaY k t)])/\(zaY k t=false->v=.slice none 0 0)/\Below w.heap.size w w'
theorem zl1 {k:Nat} {t:Tr} (h:8<=t.kind):zaY (k+1) t=true:=by
 show (decide (8<=t.kind)||_)=true
 rw[qD h];rfl
theorem zj6 {k:Nat} {t:Tr} (h:¬8<=t.kind):zaY (k+1) t=t.parts.any (zaY k):=by
 show (decide (8<=t.kind)||_)=_
 rw[qE h];rfl
theorem zso (t:Tr):(zpm t).cs.toArray=(t.cs.set 8 (.bool false)).toArray:=by cases t;rfl
theorem zq2:∀k,zsn k
 | 0=>fun _ _ h=>h.elim
 | k+1=>fun t w h hf=>by
  have hlen:t.parts.length<=9223372036854775807:=by have:=h.2.1;omega
  have hn:=h.2.1.1
  have HN:=zqh hn
  have HI:=zqh h
  have HIH:=zqh (zq2 k)
  have hfo:zch t=true/\t.parts.all (zah k)=true:=by
   have:(zch t&&t.parts.all (zah k))=true:=hf
   rw[qR] at this
   exact this
  have hkd:0<=t.kind/\t.kind<=11:=by
   have:=hfo.1
   unfold zch at this
   exact (jB this).1
  have HFp:Hid (∀p∈t.parts,zah k p=true):=zqh (fun p hp=>List.all_eq_true.1 hfo.2 p hp)
  have hA:At (w.alloc (Obj.cells t.cs.toArray 49)) w.heap.size 49 t.cs.toArray:=At.new _ _ _
  have hB:Below w.heap.size w (w.alloc (Obj.cells t.cs.toArray 49)):=zqb
  obtain ⟨c0,c5,c6,c7,c8⟩:=At.tr_cell hA
  rw[hn] at c5
  have HC5:=zqh c5
  clear h hf hfo hn c5 c6 c7
  by_cases hk:8<=t.kind
  ·have HL:=zqh (zl1 (k:=k) hk)
   have hk4:t.kind=8\/t.kind=9\/t.kind=10\/t.kind=11:=by omega
   clear hk hkd
   rw[HL.out]
   have HNa:=zsm (zpm t)
   obtain ⟨cs1,hcs1⟩:∃cs1,cs1=(t.cs.set 8 (.bool false)).toArray:=⟨_,rfl⟩
   rw[zso,<-hcs1] at HNa
   have HNa:=zqh HNa
   have HA1:Hid (At (w.alloc (.cells cs1 49)) w.heap.size 49 cs1):=zqh (At.new _ _ _)
   have HB1:Hid (Below w.heap.size w (w.alloc (.cells cs1 49))):=zqh (zqb)
   rw[show cs1=t.cs.toArray.setIfInBounds 8 (.bool false) by rw[hcs1];simp] at HA1
   rcases hk4 with hk | hk | hk | hk
   all_goals
    rw[hk] at c0
    go_enter Tryz.func51,Tryz.ntmps51
    go_wp2_with (first
     |(with_reducible show wpList _ _ _ (⟨some 21,.load _ _,_,_,_,_⟩::_) _ _
       refine jU rfl 49 _ rfl w.heap.size rfl 49 (t.cs.toArray.setIfInBounds 8 (.bool false)) (0,0) _ HA1.out Tryz.underlying49 rfl (by rw[Array.size_setIfInBounds];kernel_rfl) ?_)
     | fail)
    rw[<-hcs1]
    refine (HNa.out _).mono ?_
    rintro e w1 ⟨rfl,hb1⟩
    have HB2:=zqh (zaf HB1.out hb1 rfl rfl rfl rfl)
    clear hb1
    go_wp2_with fail
    go_ret2
    refine ⟨_,rfl,fun q=>(by cases q),?_⟩
    exact ((HB2.out.alloc HB2.out.size _).alloc (by rw[qV];have:=HB2.out.size;omega) _).drew
  ·have hlb:=zj6 (k:=k) hk
   have HLb:=zqh hlb
   have d8:=(zab (show ¬t.kind=8 by omega)).1
   have d9:=(zab (show ¬t.kind=9 by omega)).1
   have d10:=(zab (show ¬t.kind=10 by omega)).1
   have d11:=(zab (show ¬t.kind=11 by omega)).1
   have c5:=HC5.out
   clear hk hkd hlb
   go_enter Tryz.func51,Tryz.ntmps51
   go_wp2_with fail
   go_loopw [0,9,36] (fun v o i wr=>∃j:Nat,j<=t.parts.length/\i=.int .i64 j/\v=.slice none 0 0/\o=.bool true/\Hid ((t.parts.take j).any (zaY k)=false)/\Hid (At wr w.heap.size 49 t.cs.toArray)/\Hid (Below w.heap.size w wr)) (fun _ _ i _=>t.parts.length-(intOf i).toNat)
   case atStart=>exact ⟨0,qK _,rfl,rfl,rfl,zqh rfl,zqh hA,zqh hB⟩
   case round =>
    clear c5 c0 c8 hA hB
    obtain ⟨j,hj,rfl,rfl,rfl,HT,hA,hB⟩:=hrel
    by_cases hlt:j<t.parts.length
    ·obtain ⟨b,off,ha,hb,hr⟩:=HI.out.2.2.1 (by rw[HN.out];omega)
     have HR:=zqh (zaE (hr j hlt) hb zqn hB.out)
     have HP:=zqh (Tr.In.next (HI.out.2.2.2 j hlt) hB.out)
     have hA2:=zfE wr t.parts[j]
     have HP2:=zqh (HP.out.next (zbG wr t.parts[j]))
     have HTs:Hid ((t.parts.take (j+1)).any (zaY k)=zaY k t.parts[j]):=zqh (by
      rw[qW hlt,yX,HT.out];simp)
     have HFj:=HFp.out t.parts[j] (qG hlt)
     clear hr hb
     rw[ha]
     clear ha
     have hjz:(0:Int)<=(j:Int):=by omega
     have hjn:(j:Int)<(t.parts.length:Int):=by omega
     go_wp2_with (first
      |(refine wpList_load_mid rfl 49 _ rfl b (off+j*9) rfl t.parts[j].cs _ HR.out Tryz.underlying49 rfl (by rw[Tr.cs_length];kernel_rfl) ?_)
      |(refine qN rfl 49 _ _ rfl wr.heap.size t.parts[j].cs.toArray rfl rfl 49 Tr.blank.cs.toArray (At.new _ _ _) (by kernel_rfl) rfl (Tr.one _) ?_;change Exit.then _ _ _ _ (zjT wr t.parts[j]))
      |(refine jU rfl 49 _ rfl wr.heap.size rfl 49 t.parts[j].cs.toArray (0,0) _ hA2 Tryz.underlying49 rfl (by kernel_rfl) ?_) | fail)
     refine (HIH.out t.parts[j] _ HP2.out HFj).mono ?_
     rintro e w3 ⟨v,rfl,hv,hb3⟩
     have HBx:=zd8 hB.out t.parts[j]
     have HA:=zqh ((hA.out.below (zbG wr t.parts[j]) hA.out.lt).below hb3 (by rw[ze3];have:=hA.out.lt;omega))
     have HB:=zqh (HBx.trans (hb3.mono HBx.size))
     clear hb3 hA2 HBx
     obtain ⟨y,hy⟩:∃y,zaY k t.parts[j]=y:=⟨_,rfl⟩
     rw[hy] at HTs hv ⊢
     have HHv:=zqh hv
     clear hv
     cases y
     ·obtain rfl:=HHv.out rfl
      go_wp2_with fail
      exact ⟨⟨j+1,by omega,by go_num,rfl,rfl,HTs,HA,HB⟩,by simp[intOf];omega⟩
     ·have hT:Hid (zaY (k+1) t=true):=zqh (by
       rw[HLb.out,jI]
       exact ⟨_,qG hlt,hy⟩)
      go_wp2_with fail
      go_ret2
      exact ⟨v,by rw[hT.out];rfl,fun q=>(by rw[hT.out] at q;cases q),HB.out⟩
    ·obtain rfl:j=t.parts.length:=by omega
     have hT:Hid (zaY (k+1) t=false):=zqh (by rw[HLb.out];have:=HT.out;rwa [qQ] at this)
     go_wp2_with fail
     go_ret2
     exact ⟨.slice none 0 0,by rw[hT.out];rfl,fun _=>rfl,hB.out⟩
end
end Go.Proofs.YtdmodhnhldbpnaaGreat
