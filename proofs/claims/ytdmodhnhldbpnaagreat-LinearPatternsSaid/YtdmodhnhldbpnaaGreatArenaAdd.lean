/- add: a new node is put behind all others. -/
import Derived.Test.YtdmodhnhldbpnaaGreatMah
import Derived.Test.YtdmodhnhldbpnaaGreatAid
set_option linter.unusedSimpArgs false
set_option linter.unusedVariables false
set_option maxHeartbeats 16000000
set_option maxRecDepth 100000
namespace Go.Proofs.YtdmodhnhldbpnaaGreat
open Go.RowKit Go.Maps
def AG (w:World) (a:Value) (ns:List Nd) (F:Nat->Prop) (g:Nat) (m:Option Nat):Prop:=∃m' v',AT w a ns F g m' v'/\∀k,m=some k->m'=some k
theorem AG.aa {w:World} {a:Value} {ns:List Nd} {F:Nat->Prop} {g:Nat} {m:Option Nat} (h:AG w a ns F g m):AA w a ns F:=by
 obtain ⟨m',v',h,_⟩:=h
 exact ⟨g,m',v',h⟩
theorem zuN {w:World} {a v:Value} {ns:List Nd} {F:Nat->Prop} {g:Nat} {m:Option Nat} (x:Nd) (h:AT w a ns F g m v) (hx:zbQ x) (hn:ns.length<20000) (hr:x.right ns.length=true) (hlt:¬zaM ns x<ns.length) :
  Calls Tryz.prog 59 #[a,.agg x.cs.toArray] w fun e w'=>∃F',e=.returned (.int .i64 ns.length)/\AG w' a (ns++[x]) F' g m/\(∀b,F' b->F b\/w.heap.size<=b)/\OffF F w w':=by
 obtain rfl:=h.ptr
 obtain ⟨A,c,rfl⟩:=h.row.len
 have HX:=zqh hx
 have HRt:=zqh hr
 have HLt:=zqh hlt
 have HF:=zqh h.fine
 have hA:At (w.alloc (Obj.cells x.cs.toArray 61)) w.heap.size 61 x.cs.toArray:=At.new _ _ _
 have hB:Below w.heap.size w (w.alloc (Obj.cells x.cs.toArray 61)):=zqb
 have hT:=h.next hB
 have hG:=hT.box
 have hR:=hT.row
 have c0:=hG.cell 0
 have c1:=hG.cell 1
 have f1:=hG.free 1
 have hgl:=h.box.lt
 have q30:∀(w:World) (r:Option Nat),(binOp .eql 67 (.map r) (.map none)).run Tryz.prog w=.ok (.bool r.isNone) w:=fun w r=>run_eql_map_nil w _ _ _ r Tryz.underlying67
 rcases h.ids with ⟨rfl,hnil⟩ | ⟨k,rfl,hk⟩
 ·have HQ:Hid (w.heap.size+1≠g/\(Value.slice A ns.length c).ownBlock≠some g/\(Value.slice A ns.length c).ownBlock≠some (w.heap.size+1)/\F g/\(F (w.heap.size+1)\/w.heap.size<=w.heap.size+1)/\(∀b,(Value.slice A ns.length c).ownBlock=some b->F b)/\(∀b,F b->b<w.heap.size)) :=
   zqh ⟨by omega,h.apart.2.1,fun e=>by have:=h.low _ ((h.own _).2 (Or.inr (Or.inr e)));omega,(h.own g).2 (Or.inl rfl),Or.inr (by omega),fun b e=>(h.own b).2 (Or.inr (Or.inr e)),h.low⟩
  have HNe:Hid (w.heap.size≠w.heap.size+1):=zqh (by omega)
  obtain ⟨ws,hws⟩:∃ws,ws=((w.setCell ⟨g,1,none⟩ (.map (some (w.heap.size+1)))).alloc (Obj.cells x.cs.toArray 61)).alloc (.map #[] 0):=⟨_,rfl⟩
  have hAs:At ws w.heap.size 61 x.cs.toArray:=by
   have:=(At.new (w.setCell ⟨g,1,none⟩ (.map (some (w.heap.size+1)))) 61 x.cs.toArray).alloc (.map #[] 0)
   rw[jC] at this
   rw[hws];exact this
  have hGs:At ws g 69 #[.slice A ns.length c,.map (some (w.heap.size+1))]:=by rw[hws];exact ((h.box.set 1 _).alloc _).alloc _
  have hRs:zbR ws 0 (.slice A ns.length c) ns:=by rw[hws];exact zbR.alloc (zbR.alloc (kZ (a:=⟨g,1,none⟩) h.row HQ.out.2.1 _) _) _
  have hMs:zbA ws (w.heap.size+1) ns:=by
   have:=zbA.made ((w.setCell ⟨g,1,none⟩ (.map (some (w.heap.size+1)))).alloc (Obj.cells x.cs.toArray 61))
   rw[qV,jC] at this
   rw[hws,hnil];exact this
  have hOs:OffF F w ws:=by rw[hws];exact (((OffF.of (qT _ w)).set HQ.out.2.2.2.1 _).then (zqb)).then (zqb)
  have hmm:=@run_makeMap Tryz.prog
  have f1':((w.alloc (Obj.cells x.cs.toArray 61)).alloc (.map #[] 0)).frozen? ⟨g,1,none⟩=false:=(hG.alloc _).free 1
  have c1':((w.alloc (Obj.cells x.cs.toArray 61)).alloc (.map #[] 0)).cell? ⟨g,1,none⟩=some (.map none):=(hG.alloc _).cell 1
  have c0s:ws.cell? ⟨g,0,none⟩=some (.slice A ns.length c):=hGs.cell 0
  rw[hws] at c0s
  have HWs:=zqh hws
  clear h hT hx hr hlt hB hws hnil
  go_enter Tryz.func59,Tryz.ntmps59
  go_wp2_with fail
  clear c0 c1 f1 f1' c1' c0s hmm q30 hA hG hR
  have hA:=hAs
  have hG:=hGs
  have hR:=hRs
  have hM:=hMs
  have hO:=hOs
  clear hAs hGs hRs hMs hOs
  have hws:=HWs.out
  rw[<-hws]
  clear hws
  have c0:=hG.cell 0
  have f0:=hG.free 0
  refine wp_region_noPanic ?_
  refine wp_region_held_drew (S:=(fun w'=>w'.rangeAt w.heap.size 0 x.cs)) (by kernel_rfl) (by first | exact zag hA | exact zag (hA.other (by have:=HQ.out.2.2.2.2.2.2 g HQ.out.2.2.2.1;dsimp only;omega) _)) (fun hHeld=>?_)
  have hA:=hA.drew
  have hG:=hG.drew
  have hR:=hR.drewN 1
  have hM:=hM.kept (w':=ws.drew) rfl
  have hO:=hO.then ((qT _ _).drew)
  have c0:=hG.cell 0
  have f0:=hG.free 0
  refine wpAnyH_take (i:=0) (oi:=⟨some 20,_,_,_,_,_⟩) (v:=?_) rfl (by kernel_rfl) (by kernel_rfl) (by kernel_rfl) (fun _ _ _ h=>h) (Or.inl ⟨by rfl,?_⟩) (by exact hHeld) ?_
  rotate_left
  ·(intro w hSw;(try dsimp only at hSw);go_simp;try (with_reducible rfl))
  simp only[Act.put,qA,qB,qC]
  refine wpAnyH_take (i:=1) (oi:=⟨some 21,_,_,_,_,_⟩) (v:=?_) rfl (by kernel_rfl) (by kernel_rfl) (by kernel_rfl) (fun _ _ _ h=>h) (Or.inl ⟨by rfl,?_⟩) (by exact hHeld) ?_
  rotate_left
  ·(intro w hSw;(try dsimp only at hSw);go_simp;try (with_reducible rfl))
  simp only[Act.put,qA,qB,qC]
  refine wpAnyH_take (i:=2) (oi:=⟨some 22,_,_,_,_,_⟩) (v:=?_) rfl (by kernel_rfl) (by kernel_rfl) (by kernel_rfl) (fun _ _ _ h=>h) (Or.inl ⟨by rfl,?_⟩) (by exact hHeld) ?_
  rotate_left
  ·(intro w hSw;(try dsimp only at hSw);go_simp;try (with_reducible rfl))
  simp only[Act.put,qA,qB,qC]
  refine wpAnyH_take (i:=3) (oi:=⟨some 23,_,_,_,_,_⟩) (v:=?_) rfl (by kernel_rfl) (by kernel_rfl) (by kernel_rfl) (fun _ _ _ h=>h) (Or.inl ⟨by rfl,?_⟩) (by exact hHeld) ?_
  rotate_left
  ·(intro w hSw;(try dsimp only at hSw);go_simp;try (with_reducible rfl))
  simp only[Act.put,qA,qB,qC]
  refine wpAnyH_take (i:=5) (oi:=⟨some 25,_,_,_,_,_⟩) (v:=_) rfl (by kernel_rfl) (by kernel_rfl) (by kernel_rfl) (fun _ _ _ h=>h) (yieldsIf_load_mid (by rfl) 61 _ rfl w.heap.size 0 rfl x.cs _ (fun _ h=>h) Tryz.underlying61 rfl (by rw[Nd.cs_length];kernel_rfl)) (by exact hHeld) ?_
  simp only[Act.put,qA,qB,qC]
  refine wpAnyH_ready (rs:=[4,6]) (by kernel_rfl) (by simp) ?_
  refine AllReadyH.cons (o:=⟨some 24,_,_,_,_,_⟩) rfl (fun K hK=>?_) ?_
  ·go_simp
   refine hK.out _ _ ?_ (fun hHeld=>?_)
   ·first | exact zag hA | exact zag (hA.other (by have:=HQ.out.2.2.2.2.2.2 g HQ.out.2.2.2.1;dsimp only;omega) _)
   clear hK K
   try simp only[Act.put,qA,qB,qC]
   refine wpAnyH_ready (rs:=[6]) (by kernel_rfl) (by simp) ?_
   refine AllReadyH.cons (o:=⟨some 26,_,_,_,_,_⟩) rfl (fun K hK=>?_) AllReadyH.nil
   refine zcV 22 61 x.cs.toArray rfl _ (.agg #[.int .i64 x.kind,.int .u64 x.set.w0,.int .u64 x.set.w1,.int .u64 x.set.w2,.int .u64 x.set.w3,.int .i64 x.a,.int .i64 x.b,.bool x.neg]) rfl rfl (ze5 x) (fun g8 w4 h8 hb4 hg8=>?_)
   have hA:=hA.step hb4 rfl
   have hG:=hG.step hb4 rfl
   have hR:=hR.next hb4
   have hM:=hM.kept (hb4.block (w.heap.size+1) (zbA.lt hM))
   have hO:=hO.then hb4
   have c0:=hG.cell 0
   have f0:=hG.free 0
   clear hb4 hg8
   try dsimp only
   refine hK.out _ _ ?_ (fun hHeld=>?_)
   ·first | exact zag hA | exact zag (hA.other (by have:=HQ.out.2.2.2.2.2.2 g HQ.out.2.2.2.1;dsimp only;omega) _)
   clear hK K
   try simp only[Act.put,qA,qB,qC]
   refine wpAnyH_ready (rs:=[7]) (by kernel_rfl) (by simp) ?_
   refine AllReadyH.cons (o:=⟨some 27,_,_,_,_,_⟩) rfl (fun K hK=>?_) AllReadyH.nil
   refine zcU rfl _ _ 22 rfl _ _ rfl rfl (zds _ _ ns x g8 _ hR h8 (by omega)) ?_
   rintro v9 w5 ⟨h9,hgr,hat9⟩
   obtain ⟨A9,c9,rfl⟩:=h9.len
   have hl9:(ns++[x]).length=ns.length+1:=by rw[qF];rfl
   rw[hl9] at h9 hat9
   rw[hl9]
   obtain ⟨v9,hv9⟩:∃v9,v9=Value.slice A9 (ns.length+1) c9:=⟨_,rfl⟩
   rw[<-hv9] at hat9
   obtain ⟨hkg,hAg,hAk,hFg,hFk,hFA,hFl⟩:=HQ.out
   have hA8:=hA.lt
   have hG8:=hG.lt
   have hM8:=zbA.lt hM
   have hbx:(Value.slice A ns.length c).ownBlock≠some w.heap.size:=fun e=>by have:=hFl _ (hFA _ e);omega
   have h9g:v9.ownBlock≠some g:=fun e=>by rcases hat9 with q | q;exact hAg (q.symm.trans e);(rw[q] at e;injection e with e;omega)
   have h9m:v9.ownBlock≠some (w.heap.size+1):=fun e=>by rcases hat9 with q | q;exact hAk (q.symm.trans e);(rw[q] at e;injection e with e;omega)
   have h9F:∀b,v9.ownBlock=some b->F b\/w.heap.size<=b:=fun b e=>by rcases hat9 with q | q;exact Or.inl (hFA b (q.symm.trans e));(rw[q] at e;injection e with e;have:=hO.size;right;omega)
   have hA:At w5 _ _ _:=(hgr.block _ hA8 (fun e=>hbx e.symm)).trans hA
   have hG:At w5 _ _ _:=(hgr.block _ hG8 (fun e=>hAg e.symm)).trans hG
   have hM:=hM.kept (hgr.block _ hM8 (fun e=>hAk e.symm))
   have hO:=hO.grown hgr (fun b e=>Or.inl (hFA b e))
   have c0:=hG.cell 0
   have f0:=hG.free 0
   rw[hv9] at h9g h9m h9F
   clear hgr hat9 h8 hR hA8 hG8 hM8 hbx hv9 hl9 hkg hAg hAk hFg hFk hFA hFl
   refine hK.out _ _ ?_ (fun hHeld=>?_)
   ·first | exact zag hA | exact zag (hA.other (by have:=HQ.out.2.2.2.2.2.2 g HQ.out.2.2.2.1;dsimp only;omega) _)
   clear hK K
   try simp only[Act.put,qA,qB,qC]
   refine wpAnyH_take (i:=8) (oi:=⟨some 28,_,_,_,_,_⟩) (v:=?_) rfl (by kernel_rfl) (by kernel_rfl) (by kernel_rfl) (fun _ _ _ h=>h) (Or.inl ⟨by rfl,?_⟩) (by exact hHeld) ?_
   rotate_left
   ·(intro w hSw;(try dsimp only at hSw);go_simp;try (with_reducible rfl))
   simp only[Act.put,qA,qB,qC]
   refine wpAnyH_take (i:=9) (oi:=⟨some 29,_,_,_,_,_⟩) (v:=?_) rfl (by kernel_rfl) (by kernel_rfl) (by kernel_rfl) (fun _ _ _ h=>h) (Or.inl ⟨by rfl,?_⟩) (by exact hHeld) ?_
   rotate_left
   ·(intro w hSw;(try dsimp only at hSw);go_simp;try (with_reducible rfl))
   simp only[Act.put,qA,qB,qC]
   refine wpAnyH_ready (rs:=[10]) (by kernel_rfl) (by simp) ?_
   refine AllReadyH.cons (o:=⟨none,_,_,_,_,_⟩) rfl (fun K hK=>?_) AllReadyH.nil
   go_simp
   refine hK.out _ _ ?_ (fun hHeld=>?_)
   ·first | exact zag hA | exact zag (hA.other (by have:=HQ.out.2.2.2.2.2.2 g HQ.out.2.2.2.1;dsimp only;omega) _)
   clear hK K
   try simp only[Act.put,qA,qB,qC]
   refine wpAnyH_done (by kernel_rfl) ?_ _
   refine NoPanic.normal ?_
   obtain ⟨wq,hwq⟩:∃wq,wq=w5.setCell ⟨g,0,none⟩ (.slice A9 (ns.length+1) c9):=⟨_,rfl⟩
   have hA6:At wq w.heap.size 61 x.cs.toArray:=by rw[hwq];exact hA.other (by have:=HQ.out.2.2.2.2.2.2 g HQ.out.2.2.2.1;dsimp only;omega) _
   have hG6:At wq g 69 #[.slice A9 (ns.length+1) c9,.map (some (w.heap.size+1))]:=by rw[hwq];exact hG.set 0 _
   have hM6:zbA wq (w.heap.size+1) ns:=by rw[hwq];exact hM.kept (jL w5 ⟨g,0,none⟩ _ (w.heap.size+1) (fun e=>HQ.out.1 e))
   have hR6:zbR wq 0 (.slice A9 (ns.length+1) c9) (ns++[x]):=by rw[hwq];exact kZ (a:=⟨g,0,none⟩) h9 h9g _
   have hO6:OffF F w wq:=by rw[hwq];exact hO.set HQ.out.2.2.2.1 _
   rw[<-hwq]
   clear hwq hA hG hM h9 hO c0 f0 hHeld
   go_wp2_with fail
   refine wp_region_noPanic ?_
   refine wp_region_held_drew (S:=(fun w'=>w'.cell? ⟨g,1,none⟩=some (.map (some (w.heap.size+1)))/\w'.rangeAt w.heap.size 0 x.cs)) (by kernel_rfl) (by first | exact ⟨hG7.cell 1,zag hA7⟩ | exact ⟨hG6.cell 1,zag hA6⟩) (fun hHeld=>?_)
   have hA6:=hA6.drew
   have hG6:=hG6.drew
   have hR6:=hR6.drewN 1
   have hM6:=hM6.kept (w':=wq.drew) rfl
   have hO6:=hO6.then ((qT _ _).drew)
   refine wpAnyH_take (i:=0) (oi:=⟨some 30,_,_,_,_,_⟩) (v:=?_) rfl (by kernel_rfl) (by kernel_rfl) (by kernel_rfl) (fun _ _ _ h=>h) (Or.inl ⟨by rfl,?_⟩) (by exact hHeld) ?_
   rotate_left
   ·(intro w hSw;(try dsimp only at hSw);go_simp;try (with_reducible rfl))
   simp only[Act.put,qA,qB,qC]
   refine wpAnyH_take (i:=1) (oi:=⟨some 31,_,_,_,_,_⟩) (v:=?_) rfl (by kernel_rfl) (by kernel_rfl) (by kernel_rfl) (fun _ _ _ h=>h) (Or.inl ⟨by rfl,?_⟩) (by exact hHeld) ?_
   rotate_left
   ·(intro w hSw;(try dsimp only at hSw);go_simp;try (with_reducible rfl))
   simp only[Act.put,qA,qB,qC]
   refine wpAnyH_take (i:=2) (oi:=⟨some 32,_,_,_,_,_⟩) (v:=?_) rfl (by kernel_rfl) (by kernel_rfl) (by kernel_rfl) (fun _ _ _ h=>h) (Or.inl ⟨by rfl,?_⟩) (by exact hHeld) ?_
   rotate_left
   ·(intro w hSw;(try dsimp only at hSw);go_simp;try (with_reducible rfl))
   simp only[Act.put,qA,qB,qC]
   refine wpAnyH_take (i:=3) (oi:=⟨some 33,_,_,_,_,_⟩) (v:=?_) rfl (by kernel_rfl) (by kernel_rfl) (by kernel_rfl) (fun _ _ _ h=>h) (Or.inl ⟨by rfl,?_⟩) (by exact hHeld) ?_
   rotate_left
   ·(intro w hSw;(try dsimp only at hSw);obtain ⟨s1,s2⟩:=hSw;go_simp;try (with_reducible rfl))
   simp only[Act.put,qA,qB,qC]
   refine wpAnyH_take (i:=4) (oi:=⟨some 34,_,_,_,_,_⟩) (v:=_) rfl (by kernel_rfl) (by kernel_rfl) (by kernel_rfl) (fun _ _ _ h=>h) (yieldsIf_load_mid (by rfl) 61 _ rfl w.heap.size 0 rfl x.cs _ (fun _ h=>h.2) Tryz.underlying61 rfl (by rw[Nd.cs_length];kernel_rfl)) (by exact hHeld) ?_
   simp only[Act.put,qA,qB,qC]
   refine wpAnyH_take (i:=5) (oi:=⟨some 35,_,_,_,_,_⟩) (v:=?_) rfl (by kernel_rfl) (by kernel_rfl) (by kernel_rfl) (fun _ _ _ h=>h) (Or.inl ⟨by rfl,?_⟩) (by exact hHeld) ?_
   rotate_left
   ·(intro w hSw;(try dsimp only at hSw);go_simp;try (with_reducible rfl))
   simp only[Act.put,qA,qB,qC]
   refine wpAnyH_ready (rs:=[6]) (by kernel_rfl) (by simp) ?_
   refine AllReadyH.cons (o:=⟨none,_,_,_,_,_⟩) rfl (fun K hK=>?_) AllReadyH.nil
   refine zca rfl _ _ _ 67 rfl (.map (some (w.heap.size+1))) (.agg #[.int .i64 x.kind,.int .u64 x.set.w0,.int .u64 x.set.w1,.int .u64 x.set.w2,.int .u64 x.set.w3,.int .i64 x.a,.int .i64 x.b,.bool x.neg]) (.int .i64 ns.length) rfl rfl rfl (zbA.store (x:=x) hM6 HX.out (by omega) HLt.out) ?_
   rintro w7 ⟨hM7,hg7⟩
   have hG7:At w7 _ _ _:=(hg7.block _ hG6.lt (fun e=>HQ.out.1 (by injection e with e;exact e.symm))).trans hG6
   have hA7:At w7 _ _ _:=(hg7.block _ hA6.lt (fun e=>by injection e with e;exact HNe.out e)).trans hA6
   have hR7:=hR6.grown hg7 (Or.inr h9m)
   have hO7:=hO6.grown hg7 (fun b e=>by injection e with e;subst e;exact HQ.out.2.2.2.2.1)
   clear hg7
   refine hK.out _ _ ?_ (fun hHeld=>?_)
   ·first | exact ⟨hG7.cell 1,zag hA7⟩ | exact ⟨hG6.cell 1,zag hA6⟩
   clear hK K
   try simp only[Act.put,qA,qB,qC]
   refine wpAnyH_done (by kernel_rfl) ?_ _
   refine NoPanic.normal ?_
   go_wp2_with fail
   go_ret
   refine ⟨fun b=>b=g\/some (w.heap.size+1)=some b\/(Value.slice A9 (ns.length+1) c9).ownBlock=some b,rfl,?_,?_,hO7⟩
   ·refine ⟨some (w.heap.size+1),_,⟨rfl,hG7,hR7,Or.inr ⟨(w.heap.size+1),rfl,hM7⟩,zgk HF.out HRt.out HX.out HLt.out,by rw[qF];simp;omega,⟨fun e=>HQ.out.1 (by injection e),h9g,Or.inr h9m⟩,fun b=>Iff.rfl⟩,fun k e=>by cases e⟩
   ·rintro b (e | e | e)
    ·rw[e];exact Or.inl HQ.out.2.2.2.1
    ·injection e with e;subst e;exact HQ.out.2.2.2.2.1
    ·exact h9F b e
  refine AllReadyH.cons (o:=⟨some 26,_,_,_,_,_⟩) rfl (fun K hK=>?_) AllReadyH.nil
  ·refine zcV 22 61 x.cs.toArray rfl _ (.agg #[.int .i64 x.kind,.int .u64 x.set.w0,.int .u64 x.set.w1,.int .u64 x.set.w2,.int .u64 x.set.w3,.int .i64 x.a,.int .i64 x.b,.bool x.neg]) rfl rfl (ze5 x) (fun g8 w4 h8 hb4 hg8=>?_)
   have hA:=hA.step hb4 rfl
   have hG:=hG.step hb4 rfl
   have hR:=hR.next hb4
   have hM:=hM.kept (hb4.block (w.heap.size+1) (zbA.lt hM))
   have hO:=hO.then hb4
   have c0:=hG.cell 0
   have f0:=hG.free 0
   clear hb4 hg8
   try dsimp only
   refine hK.out _ _ ?_ (fun hHeld=>?_)
   ·first | exact zag hA | exact zag (hA.other (by have:=HQ.out.2.2.2.2.2.2 g HQ.out.2.2.2.1;dsimp only;omega) _)
   clear hK K
   try simp only[Act.put,qA,qB,qC]
   refine wpAnyH_ready (rs:=[4]) (by kernel_rfl) (by simp) ?_
   refine AllReadyH.cons (o:=⟨some 24,_,_,_,_,_⟩) rfl (fun K hK=>?_) AllReadyH.nil
   go_simp
   refine hK.out _ _ ?_ (fun hHeld=>?_)
   ·first | exact zag hA | exact zag (hA.other (by have:=HQ.out.2.2.2.2.2.2 g HQ.out.2.2.2.1;dsimp only;omega) _)
   clear hK K
   try simp only[Act.put,qA,qB,qC]
   refine wpAnyH_ready (rs:=[7]) (by kernel_rfl) (by simp) ?_
   refine AllReadyH.cons (o:=⟨some 27,_,_,_,_,_⟩) rfl (fun K hK=>?_) AllReadyH.nil
   refine zcU rfl _ _ 22 rfl _ _ rfl rfl (zds _ _ ns x g8 _ hR h8 (by omega)) ?_
   rintro v9 w5 ⟨h9,hgr,hat9⟩
   obtain ⟨A9,c9,rfl⟩:=h9.len
   have hl9:(ns++[x]).length=ns.length+1:=by rw[qF];rfl
   rw[hl9] at h9 hat9
   rw[hl9]
   obtain ⟨v9,hv9⟩:∃v9,v9=Value.slice A9 (ns.length+1) c9:=⟨_,rfl⟩
   rw[<-hv9] at hat9
   obtain ⟨hkg,hAg,hAk,hFg,hFk,hFA,hFl⟩:=HQ.out
   have hA8:=hA.lt
   have hG8:=hG.lt
   have hM8:=zbA.lt hM
   have hbx:(Value.slice A ns.length c).ownBlock≠some w.heap.size:=fun e=>by have:=hFl _ (hFA _ e);omega
   have h9g:v9.ownBlock≠some g:=fun e=>by rcases hat9 with q | q;exact hAg (q.symm.trans e);(rw[q] at e;injection e with e;omega)
   have h9m:v9.ownBlock≠some (w.heap.size+1):=fun e=>by rcases hat9 with q | q;exact hAk (q.symm.trans e);(rw[q] at e;injection e with e;omega)
   have h9F:∀b,v9.ownBlock=some b->F b\/w.heap.size<=b:=fun b e=>by rcases hat9 with q | q;exact Or.inl (hFA b (q.symm.trans e));(rw[q] at e;injection e with e;have:=hO.size;right;omega)
   have hA:At w5 _ _ _:=(hgr.block _ hA8 (fun e=>hbx e.symm)).trans hA
   have hG:At w5 _ _ _:=(hgr.block _ hG8 (fun e=>hAg e.symm)).trans hG
   have hM:=hM.kept (hgr.block _ hM8 (fun e=>hAk e.symm))
   have hO:=hO.grown hgr (fun b e=>Or.inl (hFA b e))
   have c0:=hG.cell 0
   have f0:=hG.free 0
   rw[hv9] at h9g h9m h9F
   clear hgr hat9 h8 hR hA8 hG8 hM8 hbx hv9 hl9 hkg hAg hAk hFg hFk hFA hFl
   refine hK.out _ _ ?_ (fun hHeld=>?_)
   ·first | exact zag hA | exact zag (hA.other (by have:=HQ.out.2.2.2.2.2.2 g HQ.out.2.2.2.1;dsimp only;omega) _)
   clear hK K
   try simp only[Act.put,qA,qB,qC]
   refine wpAnyH_take (i:=8) (oi:=⟨some 28,_,_,_,_,_⟩) (v:=?_) rfl (by kernel_rfl) (by kernel_rfl) (by kernel_rfl) (fun _ _ _ h=>h) (Or.inl ⟨by rfl,?_⟩) (by exact hHeld) ?_
   rotate_left
   ·(intro w hSw;(try dsimp only at hSw);go_simp;try (with_reducible rfl))
   simp only[Act.put,qA,qB,qC]
   refine wpAnyH_take (i:=9) (oi:=⟨some 29,_,_,_,_,_⟩) (v:=?_) rfl (by kernel_rfl) (by kernel_rfl) (by kernel_rfl) (fun _ _ _ h=>h) (Or.inl ⟨by rfl,?_⟩) (by exact hHeld) ?_
   rotate_left
   ·(intro w hSw;(try dsimp only at hSw);go_simp;try (with_reducible rfl))
   simp only[Act.put,qA,qB,qC]
   refine wpAnyH_ready (rs:=[10]) (by kernel_rfl) (by simp) ?_
   refine AllReadyH.cons (o:=⟨none,_,_,_,_,_⟩) rfl (fun K hK=>?_) AllReadyH.nil
   go_simp
   refine hK.out _ _ ?_ (fun hHeld=>?_)
   ·first | exact zag hA | exact zag (hA.other (by have:=HQ.out.2.2.2.2.2.2 g HQ.out.2.2.2.1;dsimp only;omega) _)
   clear hK K
   try simp only[Act.put,qA,qB,qC]
   refine wpAnyH_done (by kernel_rfl) ?_ _
   refine NoPanic.normal ?_
   obtain ⟨wq,hwq⟩:∃wq,wq=w5.setCell ⟨g,0,none⟩ (.slice A9 (ns.length+1) c9):=⟨_,rfl⟩
   have hA6:At wq w.heap.size 61 x.cs.toArray:=by rw[hwq];exact hA.other (by have:=HQ.out.2.2.2.2.2.2 g HQ.out.2.2.2.1;dsimp only;omega) _
   have hG6:At wq g 69 #[.slice A9 (ns.length+1) c9,.map (some (w.heap.size+1))]:=by rw[hwq];exact hG.set 0 _
   have hM6:zbA wq (w.heap.size+1) ns:=by rw[hwq];exact hM.kept (jL w5 ⟨g,0,none⟩ _ (w.heap.size+1) (fun e=>HQ.out.1 e))
   have hR6:zbR wq 0 (.slice A9 (ns.length+1) c9) (ns++[x]):=by rw[hwq];exact kZ (a:=⟨g,0,none⟩) h9 h9g _
   have hO6:OffF F w wq:=by rw[hwq];exact hO.set HQ.out.2.2.2.1 _
   rw[<-hwq]
   clear hwq hA hG hM h9 hO c0 f0 hHeld
   go_wp2_with fail
   refine wp_region_noPanic ?_
   refine wp_region_held_drew (S:=(fun w'=>w'.cell? ⟨g,1,none⟩=some (.map (some (w.heap.size+1)))/\w'.rangeAt w.heap.size 0 x.cs)) (by kernel_rfl) (by first | exact ⟨hG7.cell 1,zag hA7⟩ | exact ⟨hG6.cell 1,zag hA6⟩) (fun hHeld=>?_)
   have hA6:=hA6.drew
   have hG6:=hG6.drew
   have hR6:=hR6.drewN 1
   have hM6:=hM6.kept (w':=wq.drew) rfl
   have hO6:=hO6.then ((qT _ _).drew)
   refine wpAnyH_take (i:=0) (oi:=⟨some 30,_,_,_,_,_⟩) (v:=?_) rfl (by kernel_rfl) (by kernel_rfl) (by kernel_rfl) (fun _ _ _ h=>h) (Or.inl ⟨by rfl,?_⟩) (by exact hHeld) ?_
   rotate_left
   ·(intro w hSw;(try dsimp only at hSw);go_simp;try (with_reducible rfl))
   simp only[Act.put,qA,qB,qC]
   refine wpAnyH_take (i:=1) (oi:=⟨some 31,_,_,_,_,_⟩) (v:=?_) rfl (by kernel_rfl) (by kernel_rfl) (by kernel_rfl) (fun _ _ _ h=>h) (Or.inl ⟨by rfl,?_⟩) (by exact hHeld) ?_
   rotate_left
   ·(intro w hSw;(try dsimp only at hSw);go_simp;try (with_reducible rfl))
   simp only[Act.put,qA,qB,qC]
   refine wpAnyH_take (i:=2) (oi:=⟨some 32,_,_,_,_,_⟩) (v:=?_) rfl (by kernel_rfl) (by kernel_rfl) (by kernel_rfl) (fun _ _ _ h=>h) (Or.inl ⟨by rfl,?_⟩) (by exact hHeld) ?_
   rotate_left
   ·(intro w hSw;(try dsimp only at hSw);go_simp;try (with_reducible rfl))
   simp only[Act.put,qA,qB,qC]
   refine wpAnyH_take (i:=3) (oi:=⟨some 33,_,_,_,_,_⟩) (v:=?_) rfl (by kernel_rfl) (by kernel_rfl) (by kernel_rfl) (fun _ _ _ h=>h) (Or.inl ⟨by rfl,?_⟩) (by exact hHeld) ?_
   rotate_left
   ·(intro w hSw;(try dsimp only at hSw);obtain ⟨s1,s2⟩:=hSw;go_simp;try (with_reducible rfl))
   simp only[Act.put,qA,qB,qC]
   refine wpAnyH_take (i:=4) (oi:=⟨some 34,_,_,_,_,_⟩) (v:=_) rfl (by kernel_rfl) (by kernel_rfl) (by kernel_rfl) (fun _ _ _ h=>h) (yieldsIf_load_mid (by rfl) 61 _ rfl w.heap.size 0 rfl x.cs _ (fun _ h=>h.2) Tryz.underlying61 rfl (by rw[Nd.cs_length];kernel_rfl)) (by exact hHeld) ?_
   simp only[Act.put,qA,qB,qC]
   refine wpAnyH_take (i:=5) (oi:=⟨some 35,_,_,_,_,_⟩) (v:=?_) rfl (by kernel_rfl) (by kernel_rfl) (by kernel_rfl) (fun _ _ _ h=>h) (Or.inl ⟨by rfl,?_⟩) (by exact hHeld) ?_
   rotate_left
   ·(intro w hSw;(try dsimp only at hSw);go_simp;try (with_reducible rfl))
   simp only[Act.put,qA,qB,qC]
   refine wpAnyH_ready (rs:=[6]) (by kernel_rfl) (by simp) ?_
   refine AllReadyH.cons (o:=⟨none,_,_,_,_,_⟩) rfl (fun K hK=>?_) AllReadyH.nil
   refine zca rfl _ _ _ 67 rfl (.map (some (w.heap.size+1))) (.agg #[.int .i64 x.kind,.int .u64 x.set.w0,.int .u64 x.set.w1,.int .u64 x.set.w2,.int .u64 x.set.w3,.int .i64 x.a,.int .i64 x.b,.bool x.neg]) (.int .i64 ns.length) rfl rfl rfl (zbA.store (x:=x) hM6 HX.out (by omega) HLt.out) ?_
   rintro w7 ⟨hM7,hg7⟩
   have hG7:At w7 _ _ _:=(hg7.block _ hG6.lt (fun e=>HQ.out.1 (by injection e with e;exact e.symm))).trans hG6
   have hA7:At w7 _ _ _:=(hg7.block _ hA6.lt (fun e=>by injection e with e;exact HNe.out e)).trans hA6
   have hR7:=hR6.grown hg7 (Or.inr h9m)
   have hO7:=hO6.grown hg7 (fun b e=>by injection e with e;subst e;exact HQ.out.2.2.2.2.1)
   clear hg7
   refine hK.out _ _ ?_ (fun hHeld=>?_)
   ·first | exact ⟨hG7.cell 1,zag hA7⟩ | exact ⟨hG6.cell 1,zag hA6⟩
   clear hK K
   try simp only[Act.put,qA,qB,qC]
   refine wpAnyH_done (by kernel_rfl) ?_ _
   refine NoPanic.normal ?_
   go_wp2_with fail
   go_ret
   refine ⟨fun b=>b=g\/some (w.heap.size+1)=some b\/(Value.slice A9 (ns.length+1) c9).ownBlock=some b,rfl,?_,?_,hO7⟩
   ·refine ⟨some (w.heap.size+1),_,⟨rfl,hG7,hR7,Or.inr ⟨(w.heap.size+1),rfl,hM7⟩,zgk HF.out HRt.out HX.out HLt.out,by rw[qF];simp;omega,⟨fun e=>HQ.out.1 (by injection e),h9g,Or.inr h9m⟩,fun b=>Iff.rfl⟩,fun k e=>by cases e⟩
   ·rintro b (e | e | e)
    ·rw[e];exact Or.inl HQ.out.2.2.2.1
    ·injection e with e;subst e;exact HQ.out.2.2.2.2.1
    ·exact h9F b e
 ·have HQ:Hid (k≠g/\(Value.slice A ns.length c).ownBlock≠some g/\(Value.slice A ns.length c).ownBlock≠some k/\F g/\(F k\/w.heap.size<=k)/\(∀b,(Value.slice A ns.length c).ownBlock=some b->F b)/\(∀b,F b->b<w.heap.size)) :=
   zqh ⟨fun e=>h.apart.1 (by rw[e]),h.apart.2.1,(by rcases h.apart.2.2 with q | q;cases q;exact q),(h.own g).2 (Or.inl rfl),Or.inl ((h.own k).2 (Or.inr (Or.inl rfl))),fun b e=>(h.own b).2 (Or.inr (Or.inr e)),h.low⟩
  have HNe:Hid (w.heap.size≠k):=zqh (by have:=hk.lt;omega)
  have hM:zbA (w.alloc (Obj.cells x.cs.toArray 61)) k ns:=hk.kept (hB.block k hk.lt)
  have hO:OffF F w (w.alloc (Obj.cells x.cs.toArray 61)):=OffF.of hB
  clear h hk hT hx hr hlt hB
  obtain ⟨ws,hws⟩:∃ws,ws=w.alloc (Obj.cells x.cs.toArray 61):=⟨_,rfl⟩
  have HWs:=zqh hws
  clear hws
  go_enter Tryz.func59,Tryz.ntmps59
  go_wp2_with fail
  clear c0 c1 f1 q30
  have hws:=HWs.out
  rw[<-hws] at hA hG hR hM hO
  rw[<-hws]
  clear hws
  have c0:=hG.cell 0
  have f0:=hG.free 0
  refine wp_region_noPanic ?_
  refine wp_region_held_drew (S:=(fun w'=>w'.rangeAt w.heap.size 0 x.cs)) (by kernel_rfl) (by first | exact zag hA | exact zag (hA.other (by have:=HQ.out.2.2.2.2.2.2 g HQ.out.2.2.2.1;dsimp only;omega) _)) (fun hHeld=>?_)
  have hA:=hA.drew
  have hG:=hG.drew
  have hR:=hR.drewN 1
  have hM:=hM.kept (w':=ws.drew) rfl
  have hO:=hO.then ((qT _ _).drew)
  have c0:=hG.cell 0
  have f0:=hG.free 0
  refine wpAnyH_take (i:=0) (oi:=⟨some 20,_,_,_,_,_⟩) (v:=?_) rfl (by kernel_rfl) (by kernel_rfl) (by kernel_rfl) (fun _ _ _ h=>h) (Or.inl ⟨by rfl,?_⟩) (by exact hHeld) ?_
  rotate_left
  ·(intro w hSw;(try dsimp only at hSw);go_simp;try (with_reducible rfl))
  simp only[Act.put,qA,qB,qC]
  refine wpAnyH_take (i:=1) (oi:=⟨some 21,_,_,_,_,_⟩) (v:=?_) rfl (by kernel_rfl) (by kernel_rfl) (by kernel_rfl) (fun _ _ _ h=>h) (Or.inl ⟨by rfl,?_⟩) (by exact hHeld) ?_
  rotate_left
  ·(intro w hSw;(try dsimp only at hSw);go_simp;try (with_reducible rfl))
  simp only[Act.put,qA,qB,qC]
  refine wpAnyH_take (i:=2) (oi:=⟨some 22,_,_,_,_,_⟩) (v:=?_) rfl (by kernel_rfl) (by kernel_rfl) (by kernel_rfl) (fun _ _ _ h=>h) (Or.inl ⟨by rfl,?_⟩) (by exact hHeld) ?_
  rotate_left
  ·(intro w hSw;(try dsimp only at hSw);go_simp;try (with_reducible rfl))
  simp only[Act.put,qA,qB,qC]
  refine wpAnyH_take (i:=3) (oi:=⟨some 23,_,_,_,_,_⟩) (v:=?_) rfl (by kernel_rfl) (by kernel_rfl) (by kernel_rfl) (fun _ _ _ h=>h) (Or.inl ⟨by rfl,?_⟩) (by exact hHeld) ?_
  rotate_left
  ·(intro w hSw;(try dsimp only at hSw);go_simp;try (with_reducible rfl))
  simp only[Act.put,qA,qB,qC]
  refine wpAnyH_take (i:=5) (oi:=⟨some 25,_,_,_,_,_⟩) (v:=_) rfl (by kernel_rfl) (by kernel_rfl) (by kernel_rfl) (fun _ _ _ h=>h) (yieldsIf_load_mid (by rfl) 61 _ rfl w.heap.size 0 rfl x.cs _ (fun _ h=>h) Tryz.underlying61 rfl (by rw[Nd.cs_length];kernel_rfl)) (by exact hHeld) ?_
  simp only[Act.put,qA,qB,qC]
  refine wpAnyH_ready (rs:=[4,6]) (by kernel_rfl) (by simp) ?_
  refine AllReadyH.cons (o:=⟨some 24,_,_,_,_,_⟩) rfl (fun K hK=>?_) ?_
  ·go_simp
   refine hK.out _ _ ?_ (fun hHeld=>?_)
   ·first | exact zag hA | exact zag (hA.other (by have:=HQ.out.2.2.2.2.2.2 g HQ.out.2.2.2.1;dsimp only;omega) _)
   clear hK K
   try simp only[Act.put,qA,qB,qC]
   refine wpAnyH_ready (rs:=[6]) (by kernel_rfl) (by simp) ?_
   refine AllReadyH.cons (o:=⟨some 26,_,_,_,_,_⟩) rfl (fun K hK=>?_) AllReadyH.nil
   refine zcV 22 61 x.cs.toArray rfl _ (.agg #[.int .i64 x.kind,.int .u64 x.set.w0,.int .u64 x.set.w1,.int .u64 x.set.w2,.int .u64 x.set.w3,.int .i64 x.a,.int .i64 x.b,.bool x.neg]) rfl rfl (ze5 x) (fun g8 w4 h8 hb4 hg8=>?_)
   have hA:=hA.step hb4 rfl
   have hG:=hG.step hb4 rfl
   have hR:=hR.next hb4
   have hM:=hM.kept (hb4.block k (zbA.lt hM))
   have hO:=hO.then hb4
   have c0:=hG.cell 0
   have f0:=hG.free 0
   clear hb4 hg8
   try dsimp only
   refine hK.out _ _ ?_ (fun hHeld=>?_)
   ·first | exact zag hA | exact zag (hA.other (by have:=HQ.out.2.2.2.2.2.2 g HQ.out.2.2.2.1;dsimp only;omega) _)
   clear hK K
   try simp only[Act.put,qA,qB,qC]
   refine wpAnyH_ready (rs:=[7]) (by kernel_rfl) (by simp) ?_
   refine AllReadyH.cons (o:=⟨some 27,_,_,_,_,_⟩) rfl (fun K hK=>?_) AllReadyH.nil
   refine zcU rfl _ _ 22 rfl _ _ rfl rfl (zds _ _ ns x g8 _ hR h8 (by omega)) ?_
   rintro v9 w5 ⟨h9,hgr,hat9⟩
   obtain ⟨A9,c9,rfl⟩:=h9.len
   have hl9:(ns++[x]).length=ns.length+1:=by rw[qF];rfl
   rw[hl9] at h9 hat9
   rw[hl9]
   obtain ⟨v9,hv9⟩:∃v9,v9=Value.slice A9 (ns.length+1) c9:=⟨_,rfl⟩
   rw[<-hv9] at hat9
   obtain ⟨hkg,hAg,hAk,hFg,hFk,hFA,hFl⟩:=HQ.out
   have hA8:=hA.lt
   have hG8:=hG.lt
   have hM8:=zbA.lt hM
   have hbx:(Value.slice A ns.length c).ownBlock≠some w.heap.size:=fun e=>by have:=hFl _ (hFA _ e);omega
   have h9g:v9.ownBlock≠some g:=fun e=>by rcases hat9 with q | q;exact hAg (q.symm.trans e);(rw[q] at e;injection e with e;omega)
   have h9m:v9.ownBlock≠some k:=fun e=>by rcases hat9 with q | q;exact hAk (q.symm.trans e);(rw[q] at e;injection e with e;omega)
   have h9F:∀b,v9.ownBlock=some b->F b\/w.heap.size<=b:=fun b e=>by rcases hat9 with q | q;exact Or.inl (hFA b (q.symm.trans e));(rw[q] at e;injection e with e;have:=hO.size;right;omega)
   have hA:At w5 _ _ _:=(hgr.block _ hA8 (fun e=>hbx e.symm)).trans hA
   have hG:At w5 _ _ _:=(hgr.block _ hG8 (fun e=>hAg e.symm)).trans hG
   have hM:=hM.kept (hgr.block _ hM8 (fun e=>hAk e.symm))
   have hO:=hO.grown hgr (fun b e=>Or.inl (hFA b e))
   have c0:=hG.cell 0
   have f0:=hG.free 0
   rw[hv9] at h9g h9m h9F
   clear hgr hat9 h8 hR hA8 hG8 hM8 hbx hv9 hl9 hkg hAg hAk hFg hFk hFA hFl
   refine hK.out _ _ ?_ (fun hHeld=>?_)
   ·first | exact zag hA | exact zag (hA.other (by have:=HQ.out.2.2.2.2.2.2 g HQ.out.2.2.2.1;dsimp only;omega) _)
   clear hK K
   try simp only[Act.put,qA,qB,qC]
   refine wpAnyH_take (i:=8) (oi:=⟨some 28,_,_,_,_,_⟩) (v:=?_) rfl (by kernel_rfl) (by kernel_rfl) (by kernel_rfl) (fun _ _ _ h=>h) (Or.inl ⟨by rfl,?_⟩) (by exact hHeld) ?_
   rotate_left
   ·(intro w hSw;(try dsimp only at hSw);go_simp;try (with_reducible rfl))
   simp only[Act.put,qA,qB,qC]
   refine wpAnyH_take (i:=9) (oi:=⟨some 29,_,_,_,_,_⟩) (v:=?_) rfl (by kernel_rfl) (by kernel_rfl) (by kernel_rfl) (fun _ _ _ h=>h) (Or.inl ⟨by rfl,?_⟩) (by exact hHeld) ?_
   rotate_left
   ·(intro w hSw;(try dsimp only at hSw);go_simp;try (with_reducible rfl))
   simp only[Act.put,qA,qB,qC]
   refine wpAnyH_ready (rs:=[10]) (by kernel_rfl) (by simp) ?_
   refine AllReadyH.cons (o:=⟨none,_,_,_,_,_⟩) rfl (fun K hK=>?_) AllReadyH.nil
   go_simp
   refine hK.out _ _ ?_ (fun hHeld=>?_)
   ·first | exact zag hA | exact zag (hA.other (by have:=HQ.out.2.2.2.2.2.2 g HQ.out.2.2.2.1;dsimp only;omega) _)
   clear hK K
   try simp only[Act.put,qA,qB,qC]
   refine wpAnyH_done (by kernel_rfl) ?_ _
   refine NoPanic.normal ?_
   obtain ⟨wq,hwq⟩:∃wq,wq=w5.setCell ⟨g,0,none⟩ (.slice A9 (ns.length+1) c9):=⟨_,rfl⟩
   have hA6:At wq w.heap.size 61 x.cs.toArray:=by rw[hwq];exact hA.other (by have:=HQ.out.2.2.2.2.2.2 g HQ.out.2.2.2.1;dsimp only;omega) _
   have hG6:At wq g 69 #[.slice A9 (ns.length+1) c9,.map (some k)]:=by rw[hwq];exact hG.set 0 _
   have hM6:zbA wq k ns:=by rw[hwq];exact hM.kept (jL w5 ⟨g,0,none⟩ _ k (fun e=>HQ.out.1 e))
   have hR6:zbR wq 0 (.slice A9 (ns.length+1) c9) (ns++[x]):=by rw[hwq];exact kZ (a:=⟨g,0,none⟩) h9 h9g _
   have hO6:OffF F w wq:=by rw[hwq];exact hO.set HQ.out.2.2.2.1 _
   rw[<-hwq]
   clear hwq hA hG hM h9 hO c0 f0 hHeld
   go_wp2_with fail
   refine wp_region_noPanic ?_
   refine wp_region_held_drew (S:=(fun w'=>w'.cell? ⟨g,1,none⟩=some (.map (some k))/\w'.rangeAt w.heap.size 0 x.cs)) (by kernel_rfl) (by first | exact ⟨hG7.cell 1,zag hA7⟩ | exact ⟨hG6.cell 1,zag hA6⟩) (fun hHeld=>?_)
   have hA6:=hA6.drew
   have hG6:=hG6.drew
   have hR6:=hR6.drewN 1
   have hM6:=hM6.kept (w':=wq.drew) rfl
   have hO6:=hO6.then ((qT _ _).drew)
   refine wpAnyH_take (i:=0) (oi:=⟨some 30,_,_,_,_,_⟩) (v:=?_) rfl (by kernel_rfl) (by kernel_rfl) (by kernel_rfl) (fun _ _ _ h=>h) (Or.inl ⟨by rfl,?_⟩) (by exact hHeld) ?_
   rotate_left
   ·(intro w hSw;(try dsimp only at hSw);go_simp;try (with_reducible rfl))
   simp only[Act.put,qA,qB,qC]
   refine wpAnyH_take (i:=1) (oi:=⟨some 31,_,_,_,_,_⟩) (v:=?_) rfl (by kernel_rfl) (by kernel_rfl) (by kernel_rfl) (fun _ _ _ h=>h) (Or.inl ⟨by rfl,?_⟩) (by exact hHeld) ?_
   rotate_left
   ·(intro w hSw;(try dsimp only at hSw);go_simp;try (with_reducible rfl))
   simp only[Act.put,qA,qB,qC]
   refine wpAnyH_take (i:=2) (oi:=⟨some 32,_,_,_,_,_⟩) (v:=?_) rfl (by kernel_rfl) (by kernel_rfl) (by kernel_rfl) (fun _ _ _ h=>h) (Or.inl ⟨by rfl,?_⟩) (by exact hHeld) ?_
   rotate_left
   ·(intro w hSw;(try dsimp only at hSw);go_simp;try (with_reducible rfl))
   simp only[Act.put,qA,qB,qC]
   refine wpAnyH_take (i:=3) (oi:=⟨some 33,_,_,_,_,_⟩) (v:=?_) rfl (by kernel_rfl) (by kernel_rfl) (by kernel_rfl) (fun _ _ _ h=>h) (Or.inl ⟨by rfl,?_⟩) (by exact hHeld) ?_
   rotate_left
   ·(intro w hSw;(try dsimp only at hSw);obtain ⟨s1,s2⟩:=hSw;go_simp;try (with_reducible rfl))
   simp only[Act.put,qA,qB,qC]
   refine wpAnyH_take (i:=4) (oi:=⟨some 34,_,_,_,_,_⟩) (v:=_) rfl (by kernel_rfl) (by kernel_rfl) (by kernel_rfl) (fun _ _ _ h=>h) (yieldsIf_load_mid (by rfl) 61 _ rfl w.heap.size 0 rfl x.cs _ (fun _ h=>h.2) Tryz.underlying61 rfl (by rw[Nd.cs_length];kernel_rfl)) (by exact hHeld) ?_
   simp only[Act.put,qA,qB,qC]
   refine wpAnyH_take (i:=5) (oi:=⟨some 35,_,_,_,_,_⟩) (v:=?_) rfl (by kernel_rfl) (by kernel_rfl) (by kernel_rfl) (fun _ _ _ h=>h) (Or.inl ⟨by rfl,?_⟩) (by exact hHeld) ?_
   rotate_left
   ·(intro w hSw;(try dsimp only at hSw);go_simp;try (with_reducible rfl))
   simp only[Act.put,qA,qB,qC]
   refine wpAnyH_ready (rs:=[6]) (by kernel_rfl) (by simp) ?_
   refine AllReadyH.cons (o:=⟨none,_,_,_,_,_⟩) rfl (fun K hK=>?_) AllReadyH.nil
   refine zca rfl _ _ _ 67 rfl (.map (some k)) (.agg #[.int .i64 x.kind,.int .u64 x.set.w0,.int .u64 x.set.w1,.int .u64 x.set.w2,.int .u64 x.set.w3,.int .i64 x.a,.int .i64 x.b,.bool x.neg]) (.int .i64 ns.length) rfl rfl rfl (zbA.store (x:=x) hM6 HX.out (by omega) HLt.out) ?_
   rintro w7 ⟨hM7,hg7⟩
   have hG7:At w7 _ _ _:=(hg7.block _ hG6.lt (fun e=>HQ.out.1 (by injection e with e;exact e.symm))).trans hG6
   have hA7:At w7 _ _ _:=(hg7.block _ hA6.lt (fun e=>by injection e with e;exact HNe.out e)).trans hA6
   have hR7:=hR6.grown hg7 (Or.inr h9m)
   have hO7:=hO6.grown hg7 (fun b e=>by injection e with e;subst e;exact HQ.out.2.2.2.2.1)
   clear hg7
   refine hK.out _ _ ?_ (fun hHeld=>?_)
   ·first | exact ⟨hG7.cell 1,zag hA7⟩ | exact ⟨hG6.cell 1,zag hA6⟩
   clear hK K
   try simp only[Act.put,qA,qB,qC]
   refine wpAnyH_done (by kernel_rfl) ?_ _
   refine NoPanic.normal ?_
   go_wp2_with fail
   go_ret
   refine ⟨fun b=>b=g\/some k=some b\/(Value.slice A9 (ns.length+1) c9).ownBlock=some b,rfl,?_,?_,hO7⟩
   ·refine ⟨some k,_,⟨rfl,hG7,hR7,Or.inr ⟨k,rfl,hM7⟩,zgk HF.out HRt.out HX.out HLt.out,by rw[qF];simp;omega,⟨fun e=>HQ.out.1 (by injection e),h9g,Or.inr h9m⟩,fun b=>Iff.rfl⟩,fun _ e=>e⟩
   ·rintro b (e | e | e)
    ·rw[e];exact Or.inl HQ.out.2.2.2.1
    ·injection e with e;subst e;exact HQ.out.2.2.2.2.1
    ·exact h9F b e
  refine AllReadyH.cons (o:=⟨some 26,_,_,_,_,_⟩) rfl (fun K hK=>?_) AllReadyH.nil
  ·refine zcV 22 61 x.cs.toArray rfl _ (.agg #[.int .i64 x.kind,.int .u64 x.set.w0,.int .u64 x.set.w1,.int .u64 x.set.w2,.int .u64 x.set.w3,.int .i64 x.a,.int .i64 x.b,.bool x.neg]) rfl rfl (ze5 x) (fun g8 w4 h8 hb4 hg8=>?_)
   have hA:=hA.step hb4 rfl
   have hG:=hG.step hb4 rfl
   have hR:=hR.next hb4
   have hM:=hM.kept (hb4.block k (zbA.lt hM))
   have hO:=hO.then hb4
   have c0:=hG.cell 0
   have f0:=hG.free 0
   clear hb4 hg8
   try dsimp only
   refine hK.out _ _ ?_ (fun hHeld=>?_)
   ·first | exact zag hA | exact zag (hA.other (by have:=HQ.out.2.2.2.2.2.2 g HQ.out.2.2.2.1;dsimp only;omega) _)
   clear hK K
   try simp only[Act.put,qA,qB,qC]
   refine wpAnyH_ready (rs:=[4]) (by kernel_rfl) (by simp) ?_
   refine AllReadyH.cons (o:=⟨some 24,_,_,_,_,_⟩) rfl (fun K hK=>?_) AllReadyH.nil
   go_simp
   refine hK.out _ _ ?_ (fun hHeld=>?_)
   ·first | exact zag hA | exact zag (hA.other (by have:=HQ.out.2.2.2.2.2.2 g HQ.out.2.2.2.1;dsimp only;omega) _)
   clear hK K
   try simp only[Act.put,qA,qB,qC]
   refine wpAnyH_ready (rs:=[7]) (by kernel_rfl) (by simp) ?_
   refine AllReadyH.cons (o:=⟨some 27,_,_,_,_,_⟩) rfl (fun K hK=>?_) AllReadyH.nil
   refine zcU rfl _ _ 22 rfl _ _ rfl rfl (zds _ _ ns x g8 _ hR h8 (by omega)) ?_
   rintro v9 w5 ⟨h9,hgr,hat9⟩
   obtain ⟨A9,c9,rfl⟩:=h9.len
   have hl9:(ns++[x]).length=ns.length+1:=by rw[qF];rfl
   rw[hl9] at h9 hat9
   rw[hl9]
   obtain ⟨v9,hv9⟩:∃v9,v9=Value.slice A9 (ns.length+1) c9:=⟨_,rfl⟩
   rw[<-hv9] at hat9
   obtain ⟨hkg,hAg,hAk,hFg,hFk,hFA,hFl⟩:=HQ.out
   have hA8:=hA.lt
   have hG8:=hG.lt
   have hM8:=zbA.lt hM
   have hbx:(Value.slice A ns.length c).ownBlock≠some w.heap.size:=fun e=>by have:=hFl _ (hFA _ e);omega
   have h9g:v9.ownBlock≠some g:=fun e=>by rcases hat9 with q | q;exact hAg (q.symm.trans e);(rw[q] at e;injection e with e;omega)
   have h9m:v9.ownBlock≠some k:=fun e=>by rcases hat9 with q | q;exact hAk (q.symm.trans e);(rw[q] at e;injection e with e;omega)
   have h9F:∀b,v9.ownBlock=some b->F b\/w.heap.size<=b:=fun b e=>by rcases hat9 with q | q;exact Or.inl (hFA b (q.symm.trans e));(rw[q] at e;injection e with e;have:=hO.size;right;omega)
   have hA:At w5 _ _ _:=(hgr.block _ hA8 (fun e=>hbx e.symm)).trans hA
   have hG:At w5 _ _ _:=(hgr.block _ hG8 (fun e=>hAg e.symm)).trans hG
   have hM:=hM.kept (hgr.block _ hM8 (fun e=>hAk e.symm))
   have hO:=hO.grown hgr (fun b e=>Or.inl (hFA b e))
   have c0:=hG.cell 0
   have f0:=hG.free 0
   rw[hv9] at h9g h9m h9F
   clear hgr hat9 h8 hR hA8 hG8 hM8 hbx hv9 hl9 hkg hAg hAk hFg hFk hFA hFl
   refine hK.out _ _ ?_ (fun hHeld=>?_)
   ·first | exact zag hA | exact zag (hA.other (by have:=HQ.out.2.2.2.2.2.2 g HQ.out.2.2.2.1;dsimp only;omega) _)
   clear hK K
   try simp only[Act.put,qA,qB,qC]
   refine wpAnyH_take (i:=8) (oi:=⟨some 28,_,_,_,_,_⟩) (v:=?_) rfl (by kernel_rfl) (by kernel_rfl) (by kernel_rfl) (fun _ _ _ h=>h) (Or.inl ⟨by rfl,?_⟩) (by exact hHeld) ?_
   rotate_left
   ·(intro w hSw;(try dsimp only at hSw);go_simp;try (with_reducible rfl))
   simp only[Act.put,qA,qB,qC]
   refine wpAnyH_take (i:=9) (oi:=⟨some 29,_,_,_,_,_⟩) (v:=?_) rfl (by kernel_rfl) (by kernel_rfl) (by kernel_rfl) (fun _ _ _ h=>h) (Or.inl ⟨by rfl,?_⟩) (by exact hHeld) ?_
   rotate_left
   ·(intro w hSw;(try dsimp only at hSw);go_simp;try (with_reducible rfl))
   simp only[Act.put,qA,qB,qC]
   refine wpAnyH_ready (rs:=[10]) (by kernel_rfl) (by simp) ?_
   refine AllReadyH.cons (o:=⟨none,_,_,_,_,_⟩) rfl (fun K hK=>?_) AllReadyH.nil
   go_simp
   refine hK.out _ _ ?_ (fun hHeld=>?_)
   ·first | exact zag hA | exact zag (hA.other (by have:=HQ.out.2.2.2.2.2.2 g HQ.out.2.2.2.1;dsimp only;omega) _)
   clear hK K
   try simp only[Act.put,qA,qB,qC]
   refine wpAnyH_done (by kernel_rfl) ?_ _
   refine NoPanic.normal ?_
   obtain ⟨wq,hwq⟩:∃wq,wq=w5.setCell ⟨g,0,none⟩ (.slice A9 (ns.length+1) c9):=⟨_,rfl⟩
   have hA6:At wq w.heap.size 61 x.cs.toArray:=by rw[hwq];exact hA.other (by have:=HQ.out.2.2.2.2.2.2 g HQ.out.2.2.2.1;dsimp only;omega) _
   have hG6:At wq g 69 #[.slice A9 (ns.length+1) c9,.map (some k)]:=by rw[hwq];exact hG.set 0 _
   have hM6:zbA wq k ns:=by rw[hwq];exact hM.kept (jL w5 ⟨g,0,none⟩ _ k (fun e=>HQ.out.1 e))
   have hR6:zbR wq 0 (.slice A9 (ns.length+1) c9) (ns++[x]):=by rw[hwq];exact kZ (a:=⟨g,0,none⟩) h9 h9g _
   have hO6:OffF F w wq:=by rw[hwq];exact hO.set HQ.out.2.2.2.1 _
   rw[<-hwq]
   clear hwq hA hG hM h9 hO c0 f0 hHeld
   go_wp2_with fail
   refine wp_region_noPanic ?_
   refine wp_region_held_drew (S:=(fun w'=>w'.cell? ⟨g,1,none⟩=some (.map (some k))/\w'.rangeAt w.heap.size 0 x.cs)) (by kernel_rfl) (by first | exact ⟨hG7.cell 1,zag hA7⟩ | exact ⟨hG6.cell 1,zag hA6⟩) (fun hHeld=>?_)
   have hA6:=hA6.drew
   have hG6:=hG6.drew
   have hR6:=hR6.drewN 1
   have hM6:=hM6.kept (w':=wq.drew) rfl
   have hO6:=hO6.then ((qT _ _).drew)
   refine wpAnyH_take (i:=0) (oi:=⟨some 30,_,_,_,_,_⟩) (v:=?_) rfl (by kernel_rfl) (by kernel_rfl) (by kernel_rfl) (fun _ _ _ h=>h) (Or.inl ⟨by rfl,?_⟩) (by exact hHeld) ?_
   rotate_left
   ·(intro w hSw;(try dsimp only at hSw);go_simp;try (with_reducible rfl))
   simp only[Act.put,qA,qB,qC]
   refine wpAnyH_take (i:=1) (oi:=⟨some 31,_,_,_,_,_⟩) (v:=?_) rfl (by kernel_rfl) (by kernel_rfl) (by kernel_rfl) (fun _ _ _ h=>h) (Or.inl ⟨by rfl,?_⟩) (by exact hHeld) ?_
   rotate_left
   ·(intro w hSw;(try dsimp only at hSw);go_simp;try (with_reducible rfl))
   simp only[Act.put,qA,qB,qC]
   refine wpAnyH_take (i:=2) (oi:=⟨some 32,_,_,_,_,_⟩) (v:=?_) rfl (by kernel_rfl) (by kernel_rfl) (by kernel_rfl) (fun _ _ _ h=>h) (Or.inl ⟨by rfl,?_⟩) (by exact hHeld) ?_
   rotate_left
   ·(intro w hSw;(try dsimp only at hSw);go_simp;try (with_reducible rfl))
   simp only[Act.put,qA,qB,qC]
   refine wpAnyH_take (i:=3) (oi:=⟨some 33,_,_,_,_,_⟩) (v:=?_) rfl (by kernel_rfl) (by kernel_rfl) (by kernel_rfl) (fun _ _ _ h=>h) (Or.inl ⟨by rfl,?_⟩) (by exact hHeld) ?_
   rotate_left
   ·(intro w hSw;(try dsimp only at hSw);obtain ⟨s1,s2⟩:=hSw;go_simp;try (with_reducible rfl))
   simp only[Act.put,qA,qB,qC]
   refine wpAnyH_take (i:=4) (oi:=⟨some 34,_,_,_,_,_⟩) (v:=_) rfl (by kernel_rfl) (by kernel_rfl) (by kernel_rfl) (fun _ _ _ h=>h) (yieldsIf_load_mid (by rfl) 61 _ rfl w.heap.size 0 rfl x.cs _ (fun _ h=>h.2) Tryz.underlying61 rfl (by rw[Nd.cs_length];kernel_rfl)) (by exact hHeld) ?_
   simp only[Act.put,qA,qB,qC]
   refine wpAnyH_take (i:=5) (oi:=⟨some 35,_,_,_,_,_⟩) (v:=?_) rfl (by kernel_rfl) (by kernel_rfl) (by kernel_rfl) (fun _ _ _ h=>h) (Or.inl ⟨by rfl,?_⟩) (by exact hHeld) ?_
   rotate_left
   ·(intro w hSw;(try dsimp only at hSw);go_simp;try (with_reducible rfl))
   simp only[Act.put,qA,qB,qC]
   refine wpAnyH_ready (rs:=[6]) (by kernel_rfl) (by simp) ?_
   refine AllReadyH.cons (o:=⟨none,_,_,_,_,_⟩) rfl (fun K hK=>?_) AllReadyH.nil
   refine zca rfl _ _ _ 67 rfl (.map (some k)) (.agg #[.int .i64 x.kind,.int .u64 x.set.w0,.int .u64 x.set.w1,.int .u64 x.set.w2,.int .u64 x.set.w3,.int .i64 x.a,.int .i64 x.b,.bool x.neg]) (.int .i64 ns.length) rfl rfl rfl (zbA.store (x:=x) hM6 HX.out (by omega) HLt.out) ?_
   rintro w7 ⟨hM7,hg7⟩
   have hG7:At w7 _ _ _:=(hg7.block _ hG6.lt (fun e=>HQ.out.1 (by injection e with e;exact e.symm))).trans hG6
   have hA7:At w7 _ _ _:=(hg7.block _ hA6.lt (fun e=>by injection e with e;exact HNe.out e)).trans hA6
   have hR7:=hR6.grown hg7 (Or.inr h9m)
   have hO7:=hO6.grown hg7 (fun b e=>by injection e with e;subst e;exact HQ.out.2.2.2.2.1)
   clear hg7
   refine hK.out _ _ ?_ (fun hHeld=>?_)
   ·first | exact ⟨hG7.cell 1,zag hA7⟩ | exact ⟨hG6.cell 1,zag hA6⟩
   clear hK K
   try simp only[Act.put,qA,qB,qC]
   refine wpAnyH_done (by kernel_rfl) ?_ _
   refine NoPanic.normal ?_
   go_wp2_with fail
   go_ret
   refine ⟨fun b=>b=g\/some k=some b\/(Value.slice A9 (ns.length+1) c9).ownBlock=some b,rfl,?_,?_,hO7⟩
   ·refine ⟨some k,_,⟨rfl,hG7,hR7,Or.inr ⟨k,rfl,hM7⟩,zgk HF.out HRt.out HX.out HLt.out,by rw[qF];simp;omega,⟨fun e=>HQ.out.1 (by injection e),h9g,Or.inr h9m⟩,fun b=>Iff.rfl⟩,fun _ e=>e⟩
   ·rintro b (e | e | e)
    ·rw[e];exact Or.inl HQ.out.2.2.2.1
    ·injection e with e;subst e;exact HQ.out.2.2.2.2.1
    ·exact h9F b e
end Go.Proofs.YtdmodhnhldbpnaaGreat
