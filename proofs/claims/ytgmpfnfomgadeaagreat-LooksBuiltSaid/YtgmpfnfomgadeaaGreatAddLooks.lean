/- looks.addLooks. -/
import Derived.Test.YtgmpfnfomgadeaaGreatPlanAt
import Derived.Deep.QuietTactic
set_option linter.unusedSimpArgs false
set_option linter.unusedVariables false
set_option maxHeartbeats 16000000
set_option maxRecDepth 100000
namespace Go.Proofs.YtgmpfnfomgadeaaGreat
open Go.RowKit
def AddPost (gp:Nat) (v:Value) (W:List Tr) (k:Nat) (t:Tr) (w:World) (e:Ending) (w':World):Prop :=
  ∃(r:Bool) (v':Value) (L':List Tr),e=.returned (.bool r)∧KeepP gp v w w'∧NewV w v v'∧PlanAt w' gp v' L'∧r=decide ((refL k W t).length≤4)∧(r=true→RelL L' (refL k W t))
structure AddIn (w:World) (k gp:Nat) (v:Value) (t:Tr):Prop where
  ins:Tr.Ins w k t
  formed:formedS k t=true
  slim:∀m,slimS m t
  mass:∀m,massS m t≤4000000
  offp:Tr.Off gp k t
  offr:∀b,v.ownBlock=some b→Tr.Off b k t
def AddIs (k:Nat):Prop:=∀(t:Tr) (w:World) (gp:Nat) (v:Value) (L W:List Tr),AddIn w k gp v t→PlanAt w gp v L→RelL L W→Calls Tryz.prog 21 #[.pointer (some ⟨gp,0,none⟩),.agg t.cs.toArray] w (AddPost gp v W k t w)
theorem nat_sum_mem {x:Nat}:∀{l:List Nat},x∈l→x≤l.sum
  | y::l,h=>by
    rw[List.sum_cons]
    rcases List.mem_cons.1 h with rfl | h
    · omega
    · have:=nat_sum_mem h;omega
theorem AddIn.part {w:World} {k gp:Nat} {v:Value} {t p:Tr} (h:AddIn w (k+1) gp v t) (hp:p∈t.parts):AddIn w k gp v p:=by
  obtain ⟨j,hj,rfl⟩:=List.getElem_of_mem hp
  exact ⟨⟨h.ins.1.2.2.2 j hj,h.ins.2.2 _ hp⟩,formed_part h.formed hj,fun m=>(h.slim (m+1)).2 _ hp,fun m=>by
    have h1:=h.mass (m+1)
    rw[mass_parts] at h1
    have h2:massS m t.parts[j]≤lmS m t.parts:=by
      unfold lmS
      exact nat_sum_mem (List.mem_map.2 ⟨_,hp,rfl⟩)
    omega,h.offp.2 _ hp,fun b e=>(h.offr b e).2 _ hp⟩
theorem AddIn.keep {w w':World} {k gp:Nat} {v v':Value} {t:Tr} (h:AddIn w k gp v t) (hk:KeepP gp v w w') (hv:NewV w v v'):AddIn w' k gp v' t :=
  ⟨hk.ins h.ins h.offp h.offr,h.formed,h.slim,h.mass,h.offp,fun b e=>by
    rcases hv with q | q
    · exact h.offr b (q.symm.trans e)
    · exact off_new (q b e) h.ins.1⟩
theorem tr_range {w:World} {g:Nat} {ty:TypeId} {t:Tr} (h:At w g ty t.cs.toArray):w.rangeAt g 0 t.cs:=fun j v hv=>by
  rw[Nat.zero_add,h.cell];simpa using hv
theorem pl_range {w:World} {g:Nat} {ty:TypeId} {v:Value} (h:At w g ty #[v]):w.rangeAt g 0 [v]:=fun j u hu=>by
  rw[Nat.zero_add,h.cell];simpa using hu
theorem at_cells {w:World} {g g9:Nat} {ty:TypeId} {cs:Array Value} (h:At w g ty cs) (hne:g≠g9) (o:Nat) (vs:List Value):At (w.setCells g9 o vs) g ty cs:=(setCells_block g9 g hne vs o w).trans h
theorem KeepP.cells {gp g:Nat} {v:Value} {ws w:World} (h:KeepP gp v ws w) (h9:v.ownBlock=some g∨ws.heap.size≤g) (o:Nat) (vs:List Value):KeepP gp v ws (w.setCells g o vs):=by
  obtain ⟨a,b,c⟩:=setCells_rest g vs o w
  refine ⟨a.trans h.os,b.trans h.tape,c.trans h.output,by rw[setCells_size];exact h.size,fun x hx h1 h2=>?_⟩
  rw[setCells_block g x (fun e=>by
    rcases h9 with q | q
    · exact h2 (by rw[q,e])
    · omega) vs o w]
  exact h.block x hx h1 h2
theorem KeepP.cell {gp:Nat} {v:Value} {ws w:World} (h:KeepP gp v ws w) (u:Value):KeepP gp v ws (w.setCell ⟨gp,0,none⟩ u) :=
  ⟨h.os,h.tape,h.output,by rw[World.size_setCell];exact h.size,fun x hx h1 h2=>(Below.heap_setCell w ⟨gp,0,none⟩ u x (fun e=>h1 e)).trans (h.block x hx h1 h2)⟩
theorem mass_congr:∀(k:Nat) (a b:Tr),a.strip k=b.strip k→massS k a=massS k b
  | 0,_,_,_=>rfl
  | k+1,a,b,h=>by
    obtain ⟨_,_,_,_,_,_,e7⟩:=strip_parts h
    show 1+(a.parts.map (massS k)).sum=1+(b.parts.map (massS k)).sum
    have key:∀(l m:List Tr),l.map (Tr.strip k)=m.map (Tr.strip k)→l.map (massS k)=m.map (massS k):=by
      intro l
      induction l with
      | nil=>intro m h;cases m with
        | nil=>rfl
        | cons _ _=>cases h
      | cons x l ih =>
        intro m h
        cases m with
        | nil=>cases h
        | cons y m =>
          rw[List.map_cons,List.map_cons] at h
          injection h with h1 h2
          rw[List.map_cons,List.map_cons,mass_congr k x y h1,ih m h2]
    rw[key _ _ e7]
theorem slim_congr:∀(k:Nat) (a b:Tr),a.strip k=b.strip k→slimS k a→slimS k b
  | 0,_,_,_,_=>trivial
  | k+1,a,b,h,hs=>by
    obtain ⟨_,_,_,_,_,e6,e7⟩:=strip_parts h
    refine ⟨by rw[←e6];exact hs.1,fun p hp=>?_⟩
    obtain ⟨j,hj,rfl⟩:=List.getElem_of_mem hp
    have h3:=congrArg (fun l=>l[j]?) e7
    simp only[List.getElem?_map] at h3
    rw[List.getElem?_eq_getElem (by omega),List.getElem?_eq_getElem hj] at h3
    exact slim_congr k _ _ (by simpa using h3) (hs.2 _ (List.getElem_mem _))
structure AJ (gp:Nat) (v:Value) (w:World) (k:Nat) (t:Tr) (W:List Tr) (j:Nat) (wr:World) (v2:Value) (L2:List Tr):Prop where
  keep:KeepP gp v w wr
  new1:v2.ownBlock=v.ownBlock∨∀b,v2.ownBlock=some b→w.heap.size<b
  plan:PlanAt wr gp v2 L2
  rel:RelL L2 ((t.parts.take j).foldl (refL k) W)
  box:At wr w.heap.size 27 t.cs.toArray
theorem AJ.new {gp:Nat} {v v2:Value} {w wr:World} {k j:Nat} {t:Tr} {W L2:List Tr} (h:AJ gp v w k t W j wr v2 L2):NewV w v v2:=h.new1.imp id (fun q b e=>Nat.le_of_lt (q b e))
theorem PlanAt.more {ws wz:World} {gp c9 g9:Nat} {v:Value} {L:List Tr} {t3:Tr} (h:PlanAt ws gp v L) (hl:¬L.length=4) (hk:KeepP gp v ws wz) (hb:At wz gp 34 #[.slice (some ⟨g9,0,none⟩) (L.length+1) c9]) (hr:ResRow wz (gp+1) (.slice (some ⟨g9,0,none⟩) (L.length+1) c9) (L++[t3])) (h9:v.ownBlock=some g9∨ws.heap.size≤g9) (h3:LkOk ws t3) (o1:Tr.Off gp 40 t3) (o2:∀b,v.ownBlock=some b→Tr.Off b 40 t3):PlanAt wz gp (.slice (some ⟨g9,0,none⟩) (L.length+1) c9) (L++[t3])∧NewV ws v (.slice (some ⟨g9,0,none⟩) (L.length+1) c9):=by
  have hall:∀t∈L++[t3],LkOk ws t∧Tr.Off gp 40 t∧∀b,v.ownBlock=some b→Tr.Off b 40 t:=fun t ht=>by
    rcases List.mem_append.1 ht with ht | ht
    · exact ⟨h.each t ht,h.offp t ht,h.offr t ht⟩
    · rw[List.mem_singleton.1 ht];exact ⟨h3,o1,o2⟩
  refine ⟨⟨hb,hr,by rw[List.length_append];have:=h.few;simp;omega,fun t ht=>?_,fun t ht=>(hall t ht).2.1,fun t ht b e=>?_⟩,?_⟩
  · obtain ⟨a,b,c⟩:=hall t ht
    exact hk.lk a b c
  · obtain ⟨a,_,c⟩:=hall t ht
    injection e with e
    have e':g9=b:=e
    subst e'
    rcases h9 with q | q
    · exact c g9 q
    · exact off_new q a.ins.1
  · rcases h9 with q | q
    · exact Or.inl q.symm
    · refine Or.inr (fun b e=>?_)
      injection e with e
      have e':g9=b:=e
      omega
theorem addStep (k:Nat) (ih:AddIs k) (hk40:k+1≤40):AddIs (k+1):=fun t w gp v L W hin hpl hrel0=>by
    have IH:=Lib.hid ih
    have HK:=Lib.hid hk40
    have hB:Below w.heap.size w (w.alloc (.cells t.cs.toArray 27)):=(Below.refl _ _).alloc (Nat.le_refl _) _
    have hA:At (w.alloc (.cells t.cs.toArray 27)) w.heap.size 27 t.cs.toArray:=At.new _ _ _
    have HIn:=Lib.hid hin
    have hgl:=hpl.box.lt
    have HLt:=Lib.hid hgl
    have HJ0:Hid (AJ gp v w k t W 0 (w.alloc (.cells t.cs.toArray 27)) v L):=Lib.hid ⟨KeepP.of hB,Or.inl rfl,hpl.next hB,by rw[List.take_zero];exact hrel0,hA⟩
    have c5:=(At.tr_cell hA).2.1
    have HPl:=Lib.hid hpl
    have hn:=hin.ins.1.2.1.1
    rw[hn] at c5
    clear hB hA hin hpl hrel0 hk40 ih hgl hn
    go_enter Tryz.func21,Tryz.ntmps21
    go_wp2_with fail
    clear c5
    go_loopw [11] (fun i wr=>∃(j:Nat) (v2:Value) (L2:List Tr),j≤t.parts.length∧i=.int .i64 j∧Hid (AJ gp v w k t W j wr v2 L2)) (fun i _=>t.parts.length-(intOf i).toNat)
    case atStart=>exact ⟨0,v,L,Nat.zero_le _,rfl,HJ0⟩
    case round =>
      clear HJ0
      obtain ⟨j,v2,L2,hj,rfl,HJ⟩:=hrel
      by_cases hlt:j<t.parts.length
      · have hin2:=HIn.out.keep HJ.out.keep HJ.out.new
        obtain ⟨b1,o1,ha,hb1,hr1⟩:=hin2.ins.1.2.2.1 (by rw[hin2.ins.1.2.1.1];omega)
        have HX:=Lib.hid (hr1 j hlt)
        have hlen:t.parts.length≤9223372036854775807:=by have:=hin2.ins.1.2.1;omega
        have hjz:(0:Int)≤(j:Int):=by omega
        have hjn:(j:Int)<(t.parts.length:Int):=by omega
        have HTk:=Lib.hid (foldl_take (f:=refL k) (W:=W) hlt)
        have HMo:=Lib.hid (foldl_more (refL_len k) t.parts W (j+1))
        have hbx:=boxW_next wr t.parts[j]
        have HPr:=Lib.hid ((hin2.part (List.getElem_mem hlt)).keep (KeepP.of hbx) (Or.inl rfl))
        obtain ⟨q,hq⟩:∃q,q=t.parts[j]:=⟨_,rfl⟩
        rw[←hq] at HX HPr HTk hbx
        have HBx:=Lib.hid (boxW_at wr q)
        have HPl2:=Lib.hid (HJ.out.plan.next hbx)
        have HKx:Hid (KeepP gp v2 wr (boxW wr q)):=Lib.hid (KeepP.of hbx)
        have HBox:=Lib.hid (At.below HJ.out.box hbx HJ.out.box.lt)
        have hone:=Tr.one q
        have HC:=Lib.hid (IH.out q (boxW wr q) gp v2 L2 _ HPr.out HPl2.out HJ.out.rel)
        clear hin2 hb1 hr1 hq hbx
        rw[ha]
        clear ha
        go_wp2_with (first
          | (with_reducible show wpList _ _ _ (⟨some 14,.load 27 _,_,_,_,_⟩::_) _ _
             refine wpList_load_mid rfl 27 _ rfl b1 (o1+j*9) rfl q.cs _ HX.out Tryz.underlying27 rfl (by rw[Tr.cs_length];kernel_rfl) ?_)
          | (with_reducible show wpList _ _ _ (⟨none,.store 27 (.tmp 6) _,_,_,_,_⟩::_) _ _
             refine wpList_store_row rfl 27 _ _ rfl wr.heap.size q.cs.toArray rfl rfl 27 Tr.blank.cs.toArray (At.new _ _ _) (by kernel_rfl) rfl hone ?_
             change Exit.then _ _ _ _ (boxW wr q))
          | (with_reducible show wpList _ _ _ (⟨some 16,.load 27 _,_,_,_,_⟩::_) _ _
             refine wpList_load_row rfl 27 _ rfl wr.heap.size rfl 27 q.cs.toArray (0,0) _ HBx.out Tryz.underlying27 rfl (by kernel_rfl) ?_)
          | fail)
        refine HC.out.mono ?_
        rintro e w3 ⟨r,v3,L3,rfl,k1,k2,k3,k4,k5⟩
        have hkk:KeepP gp v2 wr w3:=HKx.out.then (Or.inl rfl) k1
        have hnn:NewV wr v2 v3:=NewV.then (w1:=boxW wr q) (Or.inl rfl) HKx.out.size k2
        have HKw:=Lib.hid (HJ.out.keep.then HJ.out.new hkk)
        have HNw:Hid (v3.ownBlock=v.ownBlock∨∀b,v3.ownBlock=some b→w.heap.size<b):=Lib.hid (by
          rcases hnn with z | z
          · rw[z];exact HJ.out.new1
          · refine Or.inr (fun b e=>?_)
            have h1:=z b e
            have h2:=HJ.out.box.lt
            omega)
        have HP3:=Lib.hid k3
        have HR3:=Lib.hid k4
        have HL3:=Lib.hid k5
        have HB3:Hid (At w3 w.heap.size 27 t.cs.toArray):=Lib.hid (hkk.at HJ.out.box (by have:=HLt.out;omega) (fun e=>by
          rcases HJ.out.new1 with z | z
          · have:=HPl.out.rowlt (z.symm.trans e);omega
          · have:=z _ e;omega))
        clear k1 k2 k3 k4 k5 hkk hnn
        cases r with
        | true =>
          go_wp2_with fail
          exact ⟨⟨j+1,v3,L3,by omega,by go_num,Lib.hid ⟨HKw.out,HNw.out,HP3.out,by rw[HTk.out];exact HL3.out (by first | rfl | trivial),HB3.out⟩⟩,by simp[intOf];omega⟩
        | false =>
          have HF:Hid (false=decide ((refL (k+1) W t).length≤4)):=Lib.hid (by
            have h1:=HR3.out
            rw[←HTk.out] at h1
            have h2:=of_decide_eq_false h1.symm
            have h3:=HMo.out
            refine (decide_eq_false (fun z=>?_)).symm
            unfold refL at z
            split at z
            · omega
            · have:=one_len (t.parts.foldl (refL k) W) t;omega)
          go_wp2_with fail
          go_ret
          exact ⟨false,v3,L3,rfl,HKw.out,HNw.out.imp id (fun q b e=>Nat.le_of_lt (q b e)),HP3.out,HF.out,fun z=>by cases z⟩
      · obtain rfl:j=t.parts.length:=by omega
        obtain ⟨W1,hW1⟩:∃W1,W1=t.parts.foldl (refL k) W:=⟨_,rfl⟩
        have hJ:=HJ.out
        have hrel:=hJ.rel
        rw[List.take_length,←hW1] at hrel
        have HRl:=Lib.hid hrel
        have HW1:=Lib.hid hW1
        have hin2:=HIn.out.keep hJ.keep hJ.new
        have HI40:=Lib.hid (hin2.ins.upto (k':=40) (by have:=HK.out;omega))
        have HLks:=Lib.hid hJ.plan.lks
        have HFew:=Lib.hid hJ.plan.few
        have HBox:=Lib.hid hJ.box
        have HPb:=Lib.hid hJ.plan.box
        have hkd:0≤t.kind∧t.kind≤11:=by
          have:=formed_own HIn.out.formed
          unfold ownF at this
          exact (of_decide_eq_true this).1
        have hlv:Tr.Lv 40 t:=HI40.out.1.lv
        have HLv:=Lib.hid hlv
        obtain ⟨wo,hwo⟩:∃wo,wo=wr:=⟨_,rfl⟩
        rw[←hwo] at HJ HI40 HLks HBox HPb ⊢
        clear hwo hJ hrel hW1 hin2 hlv
        by_cases h8:t.kind<8
        · have HD:Hid (decide (8≤t.kind∧t.kind≤11)=false):=Lib.hid (decide_eq_false (by omega))
          have HE:Hid (refL (k+1) W t=W1):=Lib.hid (by rw[HW1.out];unfold refL;rw[if_pos h8])
          have HDec:Hid (true=decide ((refL (k+1) W t).length≤4)):=Lib.hid (by rw[HE.out,←HRl.out.length,decide_eq_true HFew.out])
          clear h8 hkd
          go_wp2_with fail
          have hBo:Below wo.heap.size wo wo:=Below.refl _ _
          refine wp_region_noPanic ?_
          refine wp_region_held_drew (S:=(fun w'=>w'.rangeAt w.heap.size 0 t.cs∧w'.rangeAt gp 0 [v2])) (by kernel_rfl) (by first | exact ⟨tr_range (At.below HBox.out hBo HBox.out.lt),pl_range (At.below HPb.out hBo HPb.out.lt)⟩ | exact ⟨tr_range (At.below HBox.out hBo.drew HBox.out.lt),pl_range (At.below HPb.out hBo.drew HPb.out.lt)⟩) (fun hHeld=>?_)
          have hBo:=hBo.drew
          refine wpAnyH_take (i:=0) (oi:=⟨some 20,_,_,_,_,_⟩) (v:=_) rfl (by kernel_rfl) (by kernel_rfl) (by kernel_rfl) (fun _ _ _ h=>h) (yieldsIf_load_mid (by rfl) 27 _ rfl w.heap.size 0 rfl t.cs _ (fun _ h=>h.1) Tryz.underlying27 rfl (by rw[Tr.cs_length];kernel_rfl)) (by exact hHeld) ?_
          simp only[Act.put,List.setIfInBounds_toArray,List.set_cons_zero,List.set_cons_succ]
          refine wpAnyH_ready (rs:=[1]) (by kernel_rfl) (by simp) ?_
          refine AllReadyH.cons (o:=⟨some 21,_,_,_,_,_⟩) rfl (fun K hK=>?_) AllReadyH.nil
          go_simp
          ((with_reducible refine (tIsLook t _).mono ?_))
          rintro e w5 ⟨rfl,hb5⟩
          have hBo:=below_step hBo hb5 rfl rfl rfl rfl
          clear hb5
          rw[HD.out]
          dsimp only
          refine hK.out _ _ ?_ (fun hHeld=>?_)
          · first | exact ⟨tr_range (At.below HBox.out hBo HBox.out.lt),pl_range (At.below HPb.out hBo HPb.out.lt)⟩ | exact ⟨tr_range (At.below HBox.out hBo.drew HBox.out.lt),pl_range (At.below HPb.out hBo.drew HPb.out.lt)⟩
          clear hK K
          try simp only[Act.put,List.setIfInBounds_toArray,List.set_cons_zero,List.set_cons_succ]
          refine wpAnyH_take (i:=2) (oi:=⟨some 22,_,_,_,_,_⟩) (v:=?_) rfl (by kernel_rfl) (by kernel_rfl) (by kernel_rfl) (fun _ _ _ h=>h) (Or.inl ⟨by rfl,?_⟩) (by exact hHeld) ?_
          rotate_left
          · (intro w hSw;(try dsimp only at hSw);go_simp;try (with_reducible rfl))
          simp only[Act.put,List.setIfInBounds_toArray,List.set_cons_zero,List.set_cons_succ]
          refine wpAnyH_take (i:=3) (oi:=⟨some 23,_,_,_,_,_⟩) (v:=?_) rfl (by kernel_rfl) (by kernel_rfl) (by kernel_rfl) (fun _ _ _ h=>h) (Or.inl ⟨by rfl,?_⟩) (by exact hHeld) ?_
          rotate_left
          · (intro w hSw;(try dsimp only at hSw);go_simp;try (with_reducible rfl))
          simp only[Act.put,List.setIfInBounds_toArray,List.set_cons_zero,List.set_cons_succ]
          refine wpAnyH_take (i:=4) (oi:=⟨some 24,_,_,_,_,_⟩) (v:=undef) rfl (by kernel_rfl) (by kernel_rfl) (by kernel_rfl) (fun _ _ _ h=>h) (Or.inr ⟨by rfl,rfl⟩) (by exact hHeld) ?_
          simp only[Act.put,List.setIfInBounds_toArray,List.set_cons_zero,List.set_cons_succ]
          refine wpAnyH_take (i:=5) (oi:=⟨some 25,_,_,_,_,_⟩) (v:=undef) rfl (by kernel_rfl) (by kernel_rfl) (by kernel_rfl) (fun _ _ _ h=>h) (Or.inr ⟨by rfl,rfl⟩) (by exact hHeld) ?_
          simp only[Act.put,List.setIfInBounds_toArray,List.set_cons_zero,List.set_cons_succ]
          refine wpAnyH_take (i:=6) (oi:=⟨some 26,_,_,_,_,_⟩) (v:=undef) rfl (by kernel_rfl) (by kernel_rfl) (by kernel_rfl) (fun _ _ _ h=>h) (Or.inr ⟨by rfl,rfl⟩) (by exact hHeld) ?_
          simp only[Act.put,List.setIfInBounds_toArray,List.set_cons_zero,List.set_cons_succ]
          refine wpAnyH_take (i:=7) (oi:=⟨some 27,_,_,_,_,_⟩) (v:=undef) rfl (by kernel_rfl) (by kernel_rfl) (by kernel_rfl) (fun _ _ _ h=>h) (Or.inr ⟨by rfl,rfl⟩) (by exact hHeld) ?_
          simp only[Act.put,List.setIfInBounds_toArray,List.set_cons_zero,List.set_cons_succ]
          refine wpAnyH_take (i:=8) (oi:=⟨some 28,_,_,_,_,_⟩) (v:=undef) rfl (by kernel_rfl) (by kernel_rfl) (by kernel_rfl) (fun _ _ _ h=>h) (Or.inr ⟨by rfl,rfl⟩) (by exact hHeld) ?_
          simp only[Act.put,List.setIfInBounds_toArray,List.set_cons_zero,List.set_cons_succ]
          refine wpAnyH_take (i:=9) (oi:=⟨some 29,_,_,_,_,_⟩) (v:=undef) rfl (by kernel_rfl) (by kernel_rfl) (by kernel_rfl) (fun _ _ _ h=>h) (Or.inr ⟨by rfl,rfl⟩) (by exact hHeld) ?_
          simp only[Act.put,List.setIfInBounds_toArray,List.set_cons_zero,List.set_cons_succ]
          refine wpAnyH_take (i:=10) (oi:=⟨some 30,_,_,_,_,_⟩) (v:=?_) rfl (by kernel_rfl) (by kernel_rfl) (by kernel_rfl) (fun _ _ _ h=>h) (Or.inl ⟨by rfl,?_⟩) (by exact hHeld) ?_
          rotate_left
          · (intro w hSw;(try dsimp only at hSw);go_simp;try (with_reducible rfl))
          simp only[Act.put,List.setIfInBounds_toArray,List.set_cons_zero,List.set_cons_succ]
          refine wpAnyH_done (by kernel_rfl) ?_ _
          refine NoPanic.normal ?_
          go_wp2_with fail
          go_ret
          exact ⟨true,v2,L2,rfl,HJ.out.keep.then HJ.out.new (KeepP.of hBo),HJ.out.new,HJ.out.plan.next hBo,HDec.out,fun _=>by rw[HE.out];exact HRl.out⟩
        · have HD:Hid (decide (8≤t.kind∧t.kind≤11)=true):=Lib.hid (decide_eq_true (by omega))
          have HE:Hid (refL (k+1) W t=lookOne W1 t):=Lib.hid (by rw[HW1.out];unfold refL;rw[if_neg h8])
          obtain ⟨z,hz⟩:∃z,idxS L2 t=z:=⟨_,rfl⟩
          have HZ:=Lib.hid hz
          have HAny:Hid (0≤z↔W1.any (fun q=>sameS 40 40 q (bareT t))=true):=Lib.hid (by rw[←hz,←HRl.out.any (bare_lv HLv.out)];exact idx_nonneg L2 0)
          clear h8 hkd hz
          by_cases hz0:0≤z
          · have dz:decide ((0:Int)≤z)=true:=decide_eq_true hz0
            have HE2:Hid (refL (k+1) W t=W1):=Lib.hid (by rw[HE.out];unfold lookOne;rw[if_pos (HAny.out.1 hz0)])
            have HDec:Hid (true=decide ((refL (k+1) W t).length≤4)):=Lib.hid (by rw[HE2.out,←HRl.out.length,decide_eq_true HFew.out])
            clear hz0
            go_wp2_with fail
            have hBo:Below wo.heap.size wo wo:=Below.refl _ _
            refine wp_region_noPanic ?_
            refine wp_region_held_drew (S:=(fun w'=>w'.rangeAt w.heap.size 0 t.cs∧w'.rangeAt gp 0 [v2])) (by kernel_rfl) (by first | exact ⟨tr_range (At.below HBox.out hBo HBox.out.lt),pl_range (At.below HPb.out hBo HPb.out.lt)⟩ | exact ⟨tr_range (At.below HBox.out hBo.drew HBox.out.lt),pl_range (At.below HPb.out hBo.drew HPb.out.lt)⟩) (fun hHeld=>?_)
            have hBo:=hBo.drew
            refine wpAnyH_take (i:=0) (oi:=⟨some 20,_,_,_,_,_⟩) (v:=_) rfl (by kernel_rfl) (by kernel_rfl) (by kernel_rfl) (fun _ _ _ h=>h) (yieldsIf_load_mid (by rfl) 27 _ rfl w.heap.size 0 rfl t.cs _ (fun _ h=>h.1) Tryz.underlying27 rfl (by rw[Tr.cs_length];kernel_rfl)) (by exact hHeld) ?_
            simp only[Act.put,List.setIfInBounds_toArray,List.set_cons_zero,List.set_cons_succ]
            refine wpAnyH_ready (rs:=[1]) (by kernel_rfl) (by simp) ?_
            refine AllReadyH.cons (o:=⟨some 21,_,_,_,_,_⟩) rfl (fun K hK=>?_) AllReadyH.nil
            go_simp
            ((with_reducible refine (tIsLook t _).mono ?_))
            rintro e w5 ⟨rfl,hb5⟩
            have hBo:=below_step hBo hb5 rfl rfl rfl rfl
            clear hb5
            rw[HD.out]
            dsimp only
            refine hK.out _ _ ?_ (fun hHeld=>?_)
            · first | exact ⟨tr_range (At.below HBox.out hBo HBox.out.lt),pl_range (At.below HPb.out hBo HPb.out.lt)⟩ | exact ⟨tr_range (At.below HBox.out hBo.drew HBox.out.lt),pl_range (At.below HPb.out hBo.drew HPb.out.lt)⟩
            clear hK K
            try simp only[Act.put,List.setIfInBounds_toArray,List.set_cons_zero,List.set_cons_succ]
            refine wpAnyH_take (i:=2) (oi:=⟨some 22,_,_,_,_,_⟩) (v:=?_) rfl (by kernel_rfl) (by kernel_rfl) (by kernel_rfl) (fun _ _ _ h=>h) (Or.inl ⟨by rfl,?_⟩) (by exact hHeld) ?_
            rotate_left
            · (intro w hSw;(try dsimp only at hSw);go_simp;try (with_reducible rfl))
            simp only[Act.put,List.setIfInBounds_toArray,List.set_cons_zero,List.set_cons_succ]
            refine wpAnyH_take (i:=3) (oi:=⟨some 23,_,_,_,_,_⟩) (v:=?_) rfl (by kernel_rfl) (by kernel_rfl) (by kernel_rfl) (fun _ _ _ h=>h) (Or.inl ⟨by rfl,?_⟩) (by exact hHeld) ?_
            rotate_left
            · (intro w hSw;(try dsimp only at hSw);go_simp;try (with_reducible rfl))
            simp only[Act.put,List.setIfInBounds_toArray,List.set_cons_zero,List.set_cons_succ]
            refine wpAnyH_take (i:=4) (oi:=⟨some 24,_,_,_,_,_⟩) (v:=?_) rfl (by kernel_rfl) (by kernel_rfl) (by kernel_rfl) (fun _ _ _ h=>h) (Or.inl ⟨by rfl,?_⟩) (by exact hHeld) ?_
            rotate_left
            · (intro w hSw;(try dsimp only at hSw);go_simp;try (with_reducible rfl))
            simp only[Act.put,List.setIfInBounds_toArray,List.set_cons_zero,List.set_cons_succ]
            refine wpAnyH_take (i:=5) (oi:=⟨some 25,_,_,_,_,_⟩) (v:=?_) rfl (by kernel_rfl) (by kernel_rfl) (by kernel_rfl) (fun _ _ _ h=>h) (Or.inl ⟨by rfl,?_⟩) (by exact hHeld) ?_
            rotate_left
            · (intro w hSw;(try dsimp only at hSw);go_simp;try (with_reducible rfl))
            simp only[Act.put,List.setIfInBounds_toArray,List.set_cons_zero,List.set_cons_succ]
            refine wpAnyH_take (i:=6) (oi:=⟨some 26,_,_,_,_,_⟩) (v:=_) rfl (by kernel_rfl) (by kernel_rfl) (by kernel_rfl) (fun _ _ _ h=>h) (yieldsIf_load_mid (by rfl) 34 _ rfl gp 0 rfl [v2] _ (fun _ h=>h.2) Tryz.underlying34 rfl (by kernel_rfl)) (by exact hHeld) ?_
            simp only[Act.put,List.setIfInBounds_toArray,List.set_cons_zero,List.set_cons_succ]
            refine wpAnyH_take (i:=7) (oi:=⟨some 27,_,_,_,_,_⟩) (v:=_) rfl (by kernel_rfl) (by kernel_rfl) (by kernel_rfl) (fun _ _ _ h=>h) (yieldsIf_load_mid (by rfl) 27 _ rfl w.heap.size 0 rfl t.cs _ (fun _ h=>h.1) Tryz.underlying27 rfl (by rw[Tr.cs_length];kernel_rfl)) (by exact hHeld) ?_
            simp only[Act.put,List.setIfInBounds_toArray,List.set_cons_zero,List.set_cons_succ]
            refine wpAnyH_ready (rs:=[8]) (by kernel_rfl) (by simp) ?_
            refine AllReadyH.cons (o:=⟨some 28,_,_,_,_,_⟩) rfl (fun K hK=>?_) AllReadyH.nil
            go_simp
            ((with_reducible refine (tIndex v2 L2 t _ (HLks.out.next hBo) (by have:=HFew.out;omega) (HI40.out.next hBo)).mono ?_))
            rintro e w6 ⟨rfl,hb6⟩
            have hBo:=below_step hBo hb6 rfl rfl rfl rfl
            clear hb6
            rw[HZ.out]
            dsimp only
            refine hK.out _ _ ?_ (fun hHeld=>?_)
            · first | exact ⟨tr_range (At.below HBox.out hBo HBox.out.lt),pl_range (At.below HPb.out hBo HPb.out.lt)⟩ | exact ⟨tr_range (At.below HBox.out hBo.drew HBox.out.lt),pl_range (At.below HPb.out hBo.drew HPb.out.lt)⟩
            clear hK K
            try simp only[Act.put,List.setIfInBounds_toArray,List.set_cons_zero,List.set_cons_succ]
            refine wpAnyH_take (i:=9) (oi:=⟨some 29,_,_,_,_,_⟩) (v:=?_) rfl (by kernel_rfl) (by kernel_rfl) (by kernel_rfl) (fun _ _ _ h=>h) (Or.inl ⟨by rfl,?_⟩) (by exact hHeld) ?_
            rotate_left
            · (intro w hSw;(try dsimp only at hSw);go_simp;try (with_reducible rfl))
            simp only[Act.put,List.setIfInBounds_toArray,List.set_cons_zero,List.set_cons_succ]
            refine wpAnyH_take (i:=10) (oi:=⟨some 30,_,_,_,_,_⟩) (v:=?_) rfl (by kernel_rfl) (by kernel_rfl) (by kernel_rfl) (fun _ _ _ h=>h) (Or.inl ⟨by rfl,?_⟩) (by exact hHeld) ?_
            rotate_left
            · (intro w hSw;(try dsimp only at hSw);go_simp;try (with_reducible rfl))
            simp only[Act.put,List.setIfInBounds_toArray,List.set_cons_zero,List.set_cons_succ]
            refine wpAnyH_done (by kernel_rfl) ?_ _
            refine NoPanic.normal ?_
            go_wp2_with fail
            go_ret
            exact ⟨true,v2,L2,rfl,HJ.out.keep.then HJ.out.new (KeepP.of hBo),HJ.out.new,HJ.out.plan.next hBo,HDec.out,fun _=>by rw[HE2.out];exact HRl.out⟩
          · have dz:decide ((0:Int)≤z)=false:=decide_eq_false hz0
            have HE2:Hid (refL (k+1) W t=W1++[bareT t]):=Lib.hid (by rw[HE.out];unfold lookOne;rw[if_neg (fun q=>hz0 (HAny.out.2 q))])
            clear hz0
            go_wp2_with fail
            have hBo:Below wo.heap.size wo wo:=Below.refl _ _
            refine wp_region_noPanic ?_
            refine wp_region_held_drew (S:=(fun w'=>w'.rangeAt w.heap.size 0 t.cs∧w'.rangeAt gp 0 [v2])) (by kernel_rfl) (by first | exact ⟨tr_range (At.below HBox.out hBo HBox.out.lt),pl_range (At.below HPb.out hBo HPb.out.lt)⟩ | exact ⟨tr_range (At.below HBox.out hBo.drew HBox.out.lt),pl_range (At.below HPb.out hBo.drew HPb.out.lt)⟩) (fun hHeld=>?_)
            have hBo:=hBo.drew
            refine wpAnyH_take (i:=0) (oi:=⟨some 20,_,_,_,_,_⟩) (v:=_) rfl (by kernel_rfl) (by kernel_rfl) (by kernel_rfl) (fun _ _ _ h=>h) (yieldsIf_load_mid (by rfl) 27 _ rfl w.heap.size 0 rfl t.cs _ (fun _ h=>h.1) Tryz.underlying27 rfl (by rw[Tr.cs_length];kernel_rfl)) (by exact hHeld) ?_
            simp only[Act.put,List.setIfInBounds_toArray,List.set_cons_zero,List.set_cons_succ]
            refine wpAnyH_ready (rs:=[1]) (by kernel_rfl) (by simp) ?_
            refine AllReadyH.cons (o:=⟨some 21,_,_,_,_,_⟩) rfl (fun K hK=>?_) AllReadyH.nil
            go_simp
            ((with_reducible refine (tIsLook t _).mono ?_))
            rintro e w5 ⟨rfl,hb5⟩
            have hBo:=below_step hBo hb5 rfl rfl rfl rfl
            clear hb5
            rw[HD.out]
            dsimp only
            refine hK.out _ _ ?_ (fun hHeld=>?_)
            · first | exact ⟨tr_range (At.below HBox.out hBo HBox.out.lt),pl_range (At.below HPb.out hBo HPb.out.lt)⟩ | exact ⟨tr_range (At.below HBox.out hBo.drew HBox.out.lt),pl_range (At.below HPb.out hBo.drew HPb.out.lt)⟩
            clear hK K
            try simp only[Act.put,List.setIfInBounds_toArray,List.set_cons_zero,List.set_cons_succ]
            refine wpAnyH_take (i:=2) (oi:=⟨some 22,_,_,_,_,_⟩) (v:=?_) rfl (by kernel_rfl) (by kernel_rfl) (by kernel_rfl) (fun _ _ _ h=>h) (Or.inl ⟨by rfl,?_⟩) (by exact hHeld) ?_
            rotate_left
            · (intro w hSw;(try dsimp only at hSw);go_simp;try (with_reducible rfl))
            simp only[Act.put,List.setIfInBounds_toArray,List.set_cons_zero,List.set_cons_succ]
            refine wpAnyH_take (i:=3) (oi:=⟨some 23,_,_,_,_,_⟩) (v:=?_) rfl (by kernel_rfl) (by kernel_rfl) (by kernel_rfl) (fun _ _ _ h=>h) (Or.inl ⟨by rfl,?_⟩) (by exact hHeld) ?_
            rotate_left
            · (intro w hSw;(try dsimp only at hSw);go_simp;try (with_reducible rfl))
            simp only[Act.put,List.setIfInBounds_toArray,List.set_cons_zero,List.set_cons_succ]
            refine wpAnyH_take (i:=4) (oi:=⟨some 24,_,_,_,_,_⟩) (v:=?_) rfl (by kernel_rfl) (by kernel_rfl) (by kernel_rfl) (fun _ _ _ h=>h) (Or.inl ⟨by rfl,?_⟩) (by exact hHeld) ?_
            rotate_left
            · (intro w hSw;(try dsimp only at hSw);go_simp;try (with_reducible rfl))
            simp only[Act.put,List.setIfInBounds_toArray,List.set_cons_zero,List.set_cons_succ]
            refine wpAnyH_take (i:=5) (oi:=⟨some 25,_,_,_,_,_⟩) (v:=?_) rfl (by kernel_rfl) (by kernel_rfl) (by kernel_rfl) (fun _ _ _ h=>h) (Or.inl ⟨by rfl,?_⟩) (by exact hHeld) ?_
            rotate_left
            · (intro w hSw;(try dsimp only at hSw);go_simp;try (with_reducible rfl))
            simp only[Act.put,List.setIfInBounds_toArray,List.set_cons_zero,List.set_cons_succ]
            refine wpAnyH_take (i:=6) (oi:=⟨some 26,_,_,_,_,_⟩) (v:=_) rfl (by kernel_rfl) (by kernel_rfl) (by kernel_rfl) (fun _ _ _ h=>h) (yieldsIf_load_mid (by rfl) 34 _ rfl gp 0 rfl [v2] _ (fun _ h=>h.2) Tryz.underlying34 rfl (by kernel_rfl)) (by exact hHeld) ?_
            simp only[Act.put,List.setIfInBounds_toArray,List.set_cons_zero,List.set_cons_succ]
            refine wpAnyH_take (i:=7) (oi:=⟨some 27,_,_,_,_,_⟩) (v:=_) rfl (by kernel_rfl) (by kernel_rfl) (by kernel_rfl) (fun _ _ _ h=>h) (yieldsIf_load_mid (by rfl) 27 _ rfl w.heap.size 0 rfl t.cs _ (fun _ h=>h.1) Tryz.underlying27 rfl (by rw[Tr.cs_length];kernel_rfl)) (by exact hHeld) ?_
            simp only[Act.put,List.setIfInBounds_toArray,List.set_cons_zero,List.set_cons_succ]
            refine wpAnyH_ready (rs:=[8]) (by kernel_rfl) (by simp) ?_
            refine AllReadyH.cons (o:=⟨some 28,_,_,_,_,_⟩) rfl (fun K hK=>?_) AllReadyH.nil
            go_simp
            ((with_reducible refine (tIndex v2 L2 t _ (HLks.out.next hBo) (by have:=HFew.out;omega) (HI40.out.next hBo)).mono ?_))
            rintro e w6 ⟨rfl,hb6⟩
            have hBo:=below_step hBo hb6 rfl rfl rfl rfl
            clear hb6
            rw[HZ.out]
            dsimp only
            refine hK.out _ _ ?_ (fun hHeld=>?_)
            · first | exact ⟨tr_range (At.below HBox.out hBo HBox.out.lt),pl_range (At.below HPb.out hBo HPb.out.lt)⟩ | exact ⟨tr_range (At.below HBox.out hBo.drew HBox.out.lt),pl_range (At.below HPb.out hBo.drew HPb.out.lt)⟩
            clear hK K
            try simp only[Act.put,List.setIfInBounds_toArray,List.set_cons_zero,List.set_cons_succ]
            refine wpAnyH_take (i:=9) (oi:=⟨some 29,_,_,_,_,_⟩) (v:=?_) rfl (by kernel_rfl) (by kernel_rfl) (by kernel_rfl) (fun _ _ _ h=>h) (Or.inl ⟨by rfl,?_⟩) (by exact hHeld) ?_
            rotate_left
            · (intro w hSw;(try dsimp only at hSw);go_simp;try (with_reducible rfl))
            simp only[Act.put,List.setIfInBounds_toArray,List.set_cons_zero,List.set_cons_succ]
            refine wpAnyH_take (i:=10) (oi:=⟨some 30,_,_,_,_,_⟩) (v:=?_) rfl (by kernel_rfl) (by kernel_rfl) (by kernel_rfl) (fun _ _ _ h=>h) (Or.inl ⟨by rfl,?_⟩) (by exact hHeld) ?_
            rotate_left
            · (intro w hSw;(try dsimp only at hSw);go_simp;try (with_reducible rfl))
            simp only[Act.put,List.setIfInBounds_toArray,List.set_cons_zero,List.set_cons_succ]
            refine wpAnyH_done (by kernel_rfl) ?_ _
            refine NoPanic.normal ?_
            have HBo:=Lib.hid hBo
            have HPl1:=Lib.hid (HJ.out.plan.next hBo)
            have HBox1:=Lib.hid (At.below HBox.out hBo HBox.out.lt)
            have c0:=HPl1.out.box.cell 0
            obtain ⟨A2,cc2,hv2,_,_⟩:=id HLks.out.1
            subst hv2
            have hL63:L2.length≤9223372036854775807:=by have:=HFew.out;omega
            clear hBo hHeld
            rw[show (#[(.slice A2 L2.length cc2)]:Array Value)[0]?=some (Value.slice A2 L2.length cc2) from rfl] at c0
            by_cases h4:L2.length=4
            · have d4:=(int_eq (show (L2.length:Int)=4 by omega)).1
              have HDec:Hid (false=decide ((refL (k+1) W t).length≤4)):=Lib.hid (by rw[HE2.out,List.length_append,←HRl.out.length,h4];rfl)
              clear h4
              go_wp2_with fail
              go_ret
              exact ⟨false,(.slice A2 L2.length cc2),L2,rfl,HJ.out.keep.then HJ.out.new (KeepP.of HBo.out),HJ.out.new,HPl1.out,HDec.out,fun z=>by cases z⟩
            · have d4:=(int_ne (show ¬(L2.length:Int)=4 by omega)).1
              have HN4:=Lib.hid h4
              clear h4
              go_wp2_with (first
                | (with_reducible show wpList _ _ _ (⟨some 37,.load 27 _,_,_,_,_⟩::_) _ _
                   refine wpList_load_row rfl 27 _ rfl w.heap.size rfl 27 t.cs.toArray (0,0) _ HBox1.out Tryz.underlying27 rfl (by kernel_rfl) ?_)
                | fail)
              refine (tCloneO t _ (HI40.out.next HBo.out) (HIn.out.slim 40) (HIn.out.mass 40)).mono ?_
              rintro e w7 ⟨t2,rfl,hin7,hfr7,hst7,how7,hb7⟩
              have HB7:=Lib.hid hb7
              have HI7:=Lib.hid hin7
              have HW7:=Lib.hid how7
              have HS7:Hid (t2.strip 40=t.strip 40):=Lib.hid hst7
              have q8:(boxW w7 t2).cell? ⟨w7.heap.size,8,none⟩=some (.bool t2.neg):=(boxW_at w7 t2).cell 8
              have f8:=(boxW_at w7 t2).free 8
              clear hin7 hfr7 hst7 how7 hb7 c0
              have hone:=Tr.one t2
              go_wp2_with (first
                | (with_reducible show wpList _ _ _ (⟨none,.store 27 (.tmp 7) _,_,_,_,_⟩::_) _ _
                   refine wpList_store_row rfl 27 _ _ rfl w7.heap.size t2.cs.toArray rfl rfl 27 Tr.blank.cs.toArray (At.new _ _ _) (by kernel_rfl) rfl hone ?_
                   change Exit.then _ _ _ _ (boxW w7 t2))
                | fail)
              obtain ⟨ws,hws⟩:∃ws,ws=(boxW w7 t2).setCell ⟨w7.heap.size,8,none⟩ (.bool false):=⟨_,rfl⟩
              rw[←hws]
              obtain ⟨t3,ht3⟩:∃t3,t3=bareT t2:=⟨_,rfl⟩
              obtain ⟨gl,hgl⟩:∃gl,gl=w7.heap.size:=⟨_,rfl⟩
              have hb8:Below w7.heap.size w7 ws:=by rw[hws];exact (boxW_next w7 t2).setCell (Nat.le_refl _) _
              have hA:At ws gl 27 t3.cs.toArray:=by rw[hws,ht3,hgl,bareT_cs];exact (boxW_at w7 t2).set 8 _
              have HPs:=Lib.hid ((HPl1.out.next HB7.out).next hb8)
              have hG:=HPs.out.box
              have hR:=HPs.out.row
              have HLk3:Hid (LkOk ws t3):=Lib.hid (by
                rw[ht3]
                exact ⟨bare_ins (HI7.out.next hb8),⟨_,_,bare_own (HW7.out.next hb8)⟩,by rw[bare_mass,mass_congr 40 t2 t HS7.out];exact HIn.out.mass 40,bare_slim (slim_congr 40 t t2 HS7.out.symm (HIn.out.slim 40))⟩)
              have HO1:Hid (Tr.Off gp 40 t3):=Lib.hid (by rw[ht3];exact bare_off (HW7.out.off (Or.inl HPl1.out.box.lt)))
              have HO2:Hid (∀b,(Value.slice A2 L2.length cc2).ownBlock=some b→Tr.Off b 40 t3):=Lib.hid (fun b e=>by rw[ht3];exact bare_off (HW7.out.off (Or.inl (HPl1.out.rowlt e).2)))
              have HKs:Hid (KeepP gp v w ws):=Lib.hid (((HJ.out.keep.then HJ.out.new (KeepP.of HBo.out)).then HJ.out.new (KeepP.of HB7.out)).then HJ.out.new (KeepP.of hb8))
              have HNs:Hid (NewV w v (.slice A2 L2.length cc2)):=Lib.hid HJ.out.new
              have HNo:Hid ((Value.slice A2 L2.length cc2).ownBlock≠some gp∧(Value.slice A2 L2.length cc2).ownBlock≠some gl∧gl≠gp):=Lib.hid (by
                have h1:=HPl1.out.box.lt
                have h2:=HB7.out.size
                exact ⟨fun e=>by have:=(HPl1.out.rowlt e).1;omega,fun e=>by have:=(HPl1.out.rowlt e).2;omega,by omega⟩)
              have HDec:Hid (true=decide ((refL (k+1) W t).length≤4)):=Lib.hid (by
                have h1:=HFew.out
                have h2:=HN4.out
                rw[HE2.out,List.length_append,←HRl.out.length]
                refine (decide_eq_true ?_).symm
                simp
                omega)
              have HRel:Hid (RelL (L2++[t3]) (refL (k+1) W t)):=Lib.hid (by
                rw[HE2.out,ht3]
                exact HRl.out.snoc (bare_strip HS7.out) (bare_lv HI7.out.1.lv) (bare_lv HLv.out))
              rw[←hgl]
              have hL0:(0:Int)≤(L2.length:Int):=by omega
              have hL1:(L2.length:Int)<((L2.length+1:Nat):Int):=by omega
              have hL2:(L2.length:Int)<(L2.length:Int)+1:=by omega
              clear hws hgl ht3 hb8 hone d4
              refine wp_region_noPanic ?_
              refine wp_region_held_drew (S:=(fun w'=>w'.rangeAt gl 0 t3.cs)) (by kernel_rfl) (by exact tr_range hA) (fun hHeld=>?_)
              have hA:=hA.drew
              have hG:=hG.drew
              have hR:ResRow ws.drew (gp+1) (.slice A2 L2.length cc2) L2:=hR
              have hO:KeepP gp (.slice A2 L2.length cc2) ws ws.drew:=KeepP.of ((Below.refl _ _).drew)
              have c0:ws.drew.cell? ⟨gp,0,none⟩=some (.slice A2 L2.length cc2):=hG.cell 0
              have f0:=hG.free 0
              refine wpAnyH_take (i:=0) (oi:=⟨some 40,_,_,_,_,_⟩) (v:=?_) rfl (by kernel_rfl) (by kernel_rfl) (by kernel_rfl) (fun _ _ _ h=>h) (Or.inl ⟨by rfl,?_⟩) (by exact hHeld) ?_
              rotate_left
              · (intro w hSw;(try dsimp only at hSw);go_simp;try (with_reducible rfl))
              simp only[Act.put,List.setIfInBounds_toArray,List.set_cons_zero,List.set_cons_succ]
              refine wpAnyH_take (i:=1) (oi:=⟨some 41,_,_,_,_,_⟩) (v:=?_) rfl (by kernel_rfl) (by kernel_rfl) (by kernel_rfl) (fun _ _ _ h=>h) (Or.inl ⟨by rfl,?_⟩) (by exact hHeld) ?_
              rotate_left
              · (intro w hSw;(try dsimp only at hSw);go_simp;try (with_reducible rfl))
              simp only[Act.put,List.setIfInBounds_toArray,List.set_cons_zero,List.set_cons_succ]
              refine wpAnyH_take (i:=2) (oi:=⟨some 42,_,_,_,_,_⟩) (v:=?_) rfl (by kernel_rfl) (by kernel_rfl) (by kernel_rfl) (fun _ _ _ h=>h) (Or.inl ⟨by rfl,?_⟩) (by exact hHeld) ?_
              rotate_left
              · (intro w hSw;(try dsimp only at hSw);go_simp;try (with_reducible rfl))
              simp only[Act.put,List.setIfInBounds_toArray,List.set_cons_zero,List.set_cons_succ]
              refine wpAnyH_take (i:=4) (oi:=⟨some 44,_,_,_,_,_⟩) (v:=_) rfl (by kernel_rfl) (by kernel_rfl) (by kernel_rfl) (fun _ _ _ h=>h) (yieldsIf_load_mid (by rfl) 27 _ rfl gl 0 rfl t3.cs _ (fun _ h=>h) Tryz.underlying27 rfl (by rw[Tr.cs_length];kernel_rfl)) (by exact hHeld) ?_
              simp only[Act.put,List.setIfInBounds_toArray,List.set_cons_zero,List.set_cons_succ]
              refine wpAnyH_ready (rs:=[3,6]) (by kernel_rfl) (by simp) ?_
              refine AllReadyH.cons (o:=⟨some 43,_,_,_,_,_⟩) rfl (fun K hK=>?_) ?_
              · go_simp
                refine hK.out _ _ ?_ (fun hHeld=>?_)
                · exact tr_range hA
                clear hK K
                try simp only[Act.put,List.setIfInBounds_toArray,List.set_cons_zero,List.set_cons_succ]
                refine wpAnyH_take (i:=5) (oi:=⟨some 45,_,_,_,_,_⟩) (v:=?_) rfl (by kernel_rfl) (by kernel_rfl) (by kernel_rfl) (fun _ _ _ h=>h) (Or.inl ⟨by rfl,?_⟩) (by exact hHeld) ?_
                rotate_left
                · (intro w hSw;(try dsimp only at hSw);go_simp;try (with_reducible rfl))
                simp only[Act.put,List.setIfInBounds_toArray,List.set_cons_zero,List.set_cons_succ]
                refine wpAnyH_ready (rs:=[6]) (by kernel_rfl) (by simp) ?_
                refine AllReadyH.cons (o:=⟨some 46,_,_,_,_,_⟩) rfl (fun K hK=>?_) AllReadyH.nil
                refine stepq_slice1 25 27 Tr.blank.cs.toArray rfl _ (.agg Tr.blank.cs.toArray) rfl rfl (run_re1 Tr.blank) (fun g8 w4 h8 hb4 hg8=>?_)
                have hA:=At.below hA hb4 hA.lt
                have hG:=At.below hG hb4 hG.lt
                have hR:=hR.nextB hb4
                have hO:=hO.then (Or.inl rfl) (KeepP.of hb4)
                have c0:w4.cell? ⟨gp,0,none⟩=some (.slice A2 L2.length cc2):=hG.cell 0
                have f0:=hG.free 0
                clear hb4 hg8
                try dsimp only
                refine hK.out _ _ ?_ (fun hHeld=>?_)
                · exact tr_range hA
                clear hK K
                try simp only[Act.put,List.setIfInBounds_toArray,List.set_cons_zero,List.set_cons_succ]
                refine wpAnyH_ready (rs:=[7]) (by kernel_rfl) (by simp) ?_
                refine AllReadyH.cons (o:=⟨some 47,_,_,_,_,_⟩) rfl (fun K hK=>?_) AllReadyH.nil
                refine stepq_append rfl _ _ 25 rfl _ _ rfl rfl (append_blank _ (gp+1) g8 (.slice A2 L2.length cc2) L2 _ hR h8 (by have:=hG.lt;omega) (by have:=HFew.out;omega)) ?_
                rintro v9 w5 ⟨g9,c9,rfl,hR9,hgr,hat⟩
                have h9:Hid (g9≠gp∧g9≠gl∧((Value.slice A2 L2.length cc2).ownBlock=some g9∨ws.heap.size≤g9)):=Lib.hid (by
                  rcases hat with q | q
                  · exact ⟨fun e=>HNo.out.1 (by rw[q,e]),fun e=>HNo.out.2.1 (by rw[q,e]),Or.inl q⟩
                  · have h1:=hA.lt
                    have h2:=hG.lt
                    have h3:=hO.size
                    exact ⟨by omega,by omega,Or.inr (by omega)⟩)
                have hA:=(hgr.block _ hA.lt (fun e=>HNo.out.2.1 e.symm)).trans hA
                have hG:=(hgr.block _ hG.lt (fun e=>HNo.out.1 e.symm)).trans hG
                have hA:At w5 gl 27 t3.cs.toArray:=hA
                have hG:At w5 gp 34 #[(.slice A2 L2.length cc2)]:=hG
                have hO:KeepP gp (.slice A2 L2.length cc2) ws w5:=hO.then (Or.inl rfl) ⟨hgr.os,hgr.tape,hgr.output,hgr.size,fun b hb _ hn=>hgr.block b hb (fun e=>hn e.symm)⟩
                have c0:w5.cell? ⟨gp,0,none⟩=some (.slice A2 L2.length cc2):=hG.cell 0
                have f0:=hG.free 0
                have hth:=hR9.there
                clear hgr hat h8 hR
                try dsimp only
                refine hK.out _ _ ?_ (fun hHeld=>?_)
                · exact tr_range hA
                clear hK K
                try simp only[Act.put,List.setIfInBounds_toArray,List.set_cons_zero,List.set_cons_succ]
                refine wpAnyH_take (i:=8) (oi:=⟨some 48,_,_,_,_,_⟩) (v:=?_) rfl (by kernel_rfl) (by kernel_rfl) (by kernel_rfl) (fun _ _ _ h=>h) (Or.inl ⟨by rfl,?_⟩) (by exact hHeld) ?_
                rotate_left
                · (intro w hSw;(try dsimp only at hSw);go_simp;try (with_reducible rfl))
                simp only[Act.put,List.setIfInBounds_toArray,List.set_cons_zero,List.set_cons_succ]
                refine wpAnyH_take (i:=10) (oi:=⟨some 49,_,_,_,_,_⟩) (v:=?_) rfl (by kernel_rfl) (by kernel_rfl) (by kernel_rfl) (fun _ _ _ h=>h) (Or.inl ⟨by rfl,?_⟩) (by exact hHeld) ?_
                rotate_left
                · (intro w hSw;(try dsimp only at hSw);go_simp;try (with_reducible rfl))
                simp only[Act.put,List.setIfInBounds_toArray,List.set_cons_zero,List.set_cons_succ]
                refine wpAnyH_take (i:=11) (oi:=⟨some 50,_,_,_,_,_⟩) (v:=?_) rfl (by kernel_rfl) (by kernel_rfl) (by kernel_rfl) (fun _ _ _ h=>h) (Or.inl ⟨by rfl,?_⟩) (by exact hHeld) ?_
                rotate_left
                · (intro w hSw;(try dsimp only at hSw);go_simp;try (with_reducible rfl))
                simp only[Act.put,List.setIfInBounds_toArray,List.set_cons_zero,List.set_cons_succ]
                refine wpAnyH_ready (rs:=[9,12]) (by kernel_rfl) (by simp) ?_
                refine AllReadyH.cons (o:=⟨none,_,_,_,_,_⟩) rfl (fun K hK=>?_) ?_
                · refine step_store_mid (by rfl) 27 _ _ (by rfl) g9 (L2.length*9) t3.cs.toArray (by first | rfl | (simp;done)) (by rfl) hth (by kernel_rfl) (Tr.one _) ?_
                  have hR9:=hR9.put t3
                  have hO:=hO.cells h9.out.2.2 (L2.length*9) t3.cs.toArray.toList
                  have hA:=at_cells hA h9.out.2.1.symm (L2.length*9) t3.cs.toArray.toList
                  have hG:=at_cells hG h9.out.1.symm (L2.length*9) t3.cs.toArray.toList
                  have c0:=hG.cell 0
                  have f0:=hG.free 0
                  clear hth
                  generalize World.setCells _ g9 (L2.length*9) t3.cs.toArray.toList=w7 at hR9 hO hA hG c0 f0 ⊢
                  refine hK.out _ _ ?_ (fun hHeld=>?_)
                  · exact tr_range hA
                  clear hK K
                  try simp only[Act.put,List.setIfInBounds_toArray,List.set_cons_zero,List.set_cons_succ]
                  refine wpAnyH_ready (rs:=[12]) (by kernel_rfl) (by simp) ?_
                  refine AllReadyH.cons (o:=⟨none,_,_,_,_,_⟩) rfl (fun K hK=>?_) AllReadyH.nil
                  go_simp
                  have hR9:ResRow _ _ _ _:=ownsRow_setCell_other (a:=⟨gp,0,none⟩) hR9 (fun e=>h9.out.1 (by injection e)) (.slice (some ⟨g9,0,none⟩) (L2.length+1) c9)
                  have hO:=hO.cell (.slice (some ⟨g9,0,none⟩) (L2.length+1) c9)
                  have hA:=hA.other (p:=⟨gp,0,none⟩) HNo.out.2.2 (.slice (some ⟨g9,0,none⟩) (L2.length+1) c9)
                  have hG:At _ gp 34 #[(.slice (some ⟨g9,0,none⟩) (L2.length+1) c9)]:=hG.set 0 (.slice (some ⟨g9,0,none⟩) (L2.length+1) c9)
                  try (have hth:=hR9.there)
                  clear c0 f0
                  generalize World.setCell _ ⟨gp,0,none⟩ (.slice (some ⟨g9,0,none⟩) (L2.length+1) c9)=w8 at *
                  refine hK.out _ _ ?_ (fun hHeld=>?_)
                  · exact tr_range hA
                  clear hK K
                  try simp only[Act.put,List.setIfInBounds_toArray,List.set_cons_zero,List.set_cons_succ]
                  refine wpAnyH_done (by kernel_rfl) ?_ _
                  refine NoPanic.normal ?_
                  go_wp2_with fail
                  go_ret
                  obtain ⟨hp,hn⟩:=HPs.out.more (t3:=t3) HN4.out hO hG hR9 h9.out.2.2 HLk3.out HO1.out HO2.out
                  exact ⟨true,(.slice (some ⟨g9,0,none⟩) (L2.length+1) c9),L2++[t3],rfl,HKs.out.then HNs.out hO,HNs.out.then HKs.out.size hn,hp,HDec.out,fun _=>HRel.out⟩
                refine AllReadyH.cons (o:=⟨none,_,_,_,_,_⟩) rfl (fun K hK=>?_) AllReadyH.nil
                · go_simp
                  have hR9:ResRow _ _ _ _:=ownsRow_setCell_other (a:=⟨gp,0,none⟩) hR9 (fun e=>h9.out.1 (by injection e)) (.slice (some ⟨g9,0,none⟩) (L2.length+1) c9)
                  have hO:=hO.cell (.slice (some ⟨g9,0,none⟩) (L2.length+1) c9)
                  have hA:=hA.other (p:=⟨gp,0,none⟩) HNo.out.2.2 (.slice (some ⟨g9,0,none⟩) (L2.length+1) c9)
                  have hG:At _ gp 34 #[(.slice (some ⟨g9,0,none⟩) (L2.length+1) c9)]:=hG.set 0 (.slice (some ⟨g9,0,none⟩) (L2.length+1) c9)
                  try (have hth:=hR9.there)
                  clear c0 f0
                  generalize World.setCell _ ⟨gp,0,none⟩ (.slice (some ⟨g9,0,none⟩) (L2.length+1) c9)=w8 at *
                  refine hK.out _ _ ?_ (fun hHeld=>?_)
                  · exact tr_range hA
                  clear hK K
                  try simp only[Act.put,List.setIfInBounds_toArray,List.set_cons_zero,List.set_cons_succ]
                  refine wpAnyH_ready (rs:=[9]) (by kernel_rfl) (by simp) ?_
                  refine AllReadyH.cons (o:=⟨none,_,_,_,_,_⟩) rfl (fun K hK=>?_) AllReadyH.nil
                  refine step_store_mid (by rfl) 27 _ _ (by rfl) g9 (L2.length*9) t3.cs.toArray (by first | rfl | (simp;done)) (by rfl) hth (by kernel_rfl) (Tr.one _) ?_
                  have hR9:=hR9.put t3
                  have hO:=hO.cells h9.out.2.2 (L2.length*9) t3.cs.toArray.toList
                  have hA:=at_cells hA h9.out.2.1.symm (L2.length*9) t3.cs.toArray.toList
                  have hG:=at_cells hG h9.out.1.symm (L2.length*9) t3.cs.toArray.toList
                  have c0:=hG.cell 0
                  have f0:=hG.free 0
                  clear hth
                  generalize World.setCells _ g9 (L2.length*9) t3.cs.toArray.toList=w7 at hR9 hO hA hG c0 f0 ⊢
                  refine hK.out _ _ ?_ (fun hHeld=>?_)
                  · exact tr_range hA
                  clear hK K
                  try simp only[Act.put,List.setIfInBounds_toArray,List.set_cons_zero,List.set_cons_succ]
                  refine wpAnyH_done (by kernel_rfl) ?_ _
                  refine NoPanic.normal ?_
                  go_wp2_with fail
                  go_ret
                  obtain ⟨hp,hn⟩:=HPs.out.more (t3:=t3) HN4.out hO hG hR9 h9.out.2.2 HLk3.out HO1.out HO2.out
                  exact ⟨true,(.slice (some ⟨g9,0,none⟩) (L2.length+1) c9),L2++[t3],rfl,HKs.out.then HNs.out hO,HNs.out.then HKs.out.size hn,hp,HDec.out,fun _=>HRel.out⟩
              refine AllReadyH.cons (o:=⟨some 46,_,_,_,_,_⟩) rfl (fun K hK=>?_) AllReadyH.nil
              · refine stepq_slice1 25 27 Tr.blank.cs.toArray rfl _ (.agg Tr.blank.cs.toArray) rfl rfl (run_re1 Tr.blank) (fun g8 w4 h8 hb4 hg8=>?_)
                have hA:=At.below hA hb4 hA.lt
                have hG:=At.below hG hb4 hG.lt
                have hR:=hR.nextB hb4
                have hO:=hO.then (Or.inl rfl) (KeepP.of hb4)
                have c0:w4.cell? ⟨gp,0,none⟩=some (.slice A2 L2.length cc2):=hG.cell 0
                have f0:=hG.free 0
                clear hb4 hg8
                try dsimp only
                refine hK.out _ _ ?_ (fun hHeld=>?_)
                · exact tr_range hA
                clear hK K
                try simp only[Act.put,List.setIfInBounds_toArray,List.set_cons_zero,List.set_cons_succ]
                refine wpAnyH_ready (rs:=[3]) (by kernel_rfl) (by simp) ?_
                refine AllReadyH.cons (o:=⟨some 43,_,_,_,_,_⟩) rfl (fun K hK=>?_) AllReadyH.nil
                go_simp
                refine hK.out _ _ ?_ (fun hHeld=>?_)
                · exact tr_range hA
                clear hK K
                try simp only[Act.put,List.setIfInBounds_toArray,List.set_cons_zero,List.set_cons_succ]
                refine wpAnyH_take (i:=5) (oi:=⟨some 45,_,_,_,_,_⟩) (v:=?_) rfl (by kernel_rfl) (by kernel_rfl) (by kernel_rfl) (fun _ _ _ h=>h) (Or.inl ⟨by rfl,?_⟩) (by exact hHeld) ?_
                rotate_left
                · (intro w hSw;(try dsimp only at hSw);go_simp;try (with_reducible rfl))
                simp only[Act.put,List.setIfInBounds_toArray,List.set_cons_zero,List.set_cons_succ]
                refine wpAnyH_ready (rs:=[7]) (by kernel_rfl) (by simp) ?_
                refine AllReadyH.cons (o:=⟨some 47,_,_,_,_,_⟩) rfl (fun K hK=>?_) AllReadyH.nil
                refine stepq_append rfl _ _ 25 rfl _ _ rfl rfl (append_blank _ (gp+1) g8 (.slice A2 L2.length cc2) L2 _ hR h8 (by have:=hG.lt;omega) (by have:=HFew.out;omega)) ?_
                rintro v9 w5 ⟨g9,c9,rfl,hR9,hgr,hat⟩
                have h9:Hid (g9≠gp∧g9≠gl∧((Value.slice A2 L2.length cc2).ownBlock=some g9∨ws.heap.size≤g9)):=Lib.hid (by
                  rcases hat with q | q
                  · exact ⟨fun e=>HNo.out.1 (by rw[q,e]),fun e=>HNo.out.2.1 (by rw[q,e]),Or.inl q⟩
                  · have h1:=hA.lt
                    have h2:=hG.lt
                    have h3:=hO.size
                    exact ⟨by omega,by omega,Or.inr (by omega)⟩)
                have hA:=(hgr.block _ hA.lt (fun e=>HNo.out.2.1 e.symm)).trans hA
                have hG:=(hgr.block _ hG.lt (fun e=>HNo.out.1 e.symm)).trans hG
                have hA:At w5 gl 27 t3.cs.toArray:=hA
                have hG:At w5 gp 34 #[(.slice A2 L2.length cc2)]:=hG
                have hO:KeepP gp (.slice A2 L2.length cc2) ws w5:=hO.then (Or.inl rfl) ⟨hgr.os,hgr.tape,hgr.output,hgr.size,fun b hb _ hn=>hgr.block b hb (fun e=>hn e.symm)⟩
                have c0:w5.cell? ⟨gp,0,none⟩=some (.slice A2 L2.length cc2):=hG.cell 0
                have f0:=hG.free 0
                have hth:=hR9.there
                clear hgr hat h8 hR
                try dsimp only
                refine hK.out _ _ ?_ (fun hHeld=>?_)
                · exact tr_range hA
                clear hK K
                try simp only[Act.put,List.setIfInBounds_toArray,List.set_cons_zero,List.set_cons_succ]
                refine wpAnyH_take (i:=8) (oi:=⟨some 48,_,_,_,_,_⟩) (v:=?_) rfl (by kernel_rfl) (by kernel_rfl) (by kernel_rfl) (fun _ _ _ h=>h) (Or.inl ⟨by rfl,?_⟩) (by exact hHeld) ?_
                rotate_left
                · (intro w hSw;(try dsimp only at hSw);go_simp;try (with_reducible rfl))
                simp only[Act.put,List.setIfInBounds_toArray,List.set_cons_zero,List.set_cons_succ]
                refine wpAnyH_take (i:=10) (oi:=⟨some 49,_,_,_,_,_⟩) (v:=?_) rfl (by kernel_rfl) (by kernel_rfl) (by kernel_rfl) (fun _ _ _ h=>h) (Or.inl ⟨by rfl,?_⟩) (by exact hHeld) ?_
                rotate_left
                · (intro w hSw;(try dsimp only at hSw);go_simp;try (with_reducible rfl))
                simp only[Act.put,List.setIfInBounds_toArray,List.set_cons_zero,List.set_cons_succ]
                refine wpAnyH_take (i:=11) (oi:=⟨some 50,_,_,_,_,_⟩) (v:=?_) rfl (by kernel_rfl) (by kernel_rfl) (by kernel_rfl) (fun _ _ _ h=>h) (Or.inl ⟨by rfl,?_⟩) (by exact hHeld) ?_
                rotate_left
                · (intro w hSw;(try dsimp only at hSw);go_simp;try (with_reducible rfl))
                simp only[Act.put,List.setIfInBounds_toArray,List.set_cons_zero,List.set_cons_succ]
                refine wpAnyH_ready (rs:=[9,12]) (by kernel_rfl) (by simp) ?_
                refine AllReadyH.cons (o:=⟨none,_,_,_,_,_⟩) rfl (fun K hK=>?_) ?_
                · refine step_store_mid (by rfl) 27 _ _ (by rfl) g9 (L2.length*9) t3.cs.toArray (by first | rfl | (simp;done)) (by rfl) hth (by kernel_rfl) (Tr.one _) ?_
                  have hR9:=hR9.put t3
                  have hO:=hO.cells h9.out.2.2 (L2.length*9) t3.cs.toArray.toList
                  have hA:=at_cells hA h9.out.2.1.symm (L2.length*9) t3.cs.toArray.toList
                  have hG:=at_cells hG h9.out.1.symm (L2.length*9) t3.cs.toArray.toList
                  have c0:=hG.cell 0
                  have f0:=hG.free 0
                  clear hth
                  generalize World.setCells _ g9 (L2.length*9) t3.cs.toArray.toList=w7 at hR9 hO hA hG c0 f0 ⊢
                  refine hK.out _ _ ?_ (fun hHeld=>?_)
                  · exact tr_range hA
                  clear hK K
                  try simp only[Act.put,List.setIfInBounds_toArray,List.set_cons_zero,List.set_cons_succ]
                  refine wpAnyH_ready (rs:=[12]) (by kernel_rfl) (by simp) ?_
                  refine AllReadyH.cons (o:=⟨none,_,_,_,_,_⟩) rfl (fun K hK=>?_) AllReadyH.nil
                  go_simp
                  have hR9:ResRow _ _ _ _:=ownsRow_setCell_other (a:=⟨gp,0,none⟩) hR9 (fun e=>h9.out.1 (by injection e)) (.slice (some ⟨g9,0,none⟩) (L2.length+1) c9)
                  have hO:=hO.cell (.slice (some ⟨g9,0,none⟩) (L2.length+1) c9)
                  have hA:=hA.other (p:=⟨gp,0,none⟩) HNo.out.2.2 (.slice (some ⟨g9,0,none⟩) (L2.length+1) c9)
                  have hG:At _ gp 34 #[(.slice (some ⟨g9,0,none⟩) (L2.length+1) c9)]:=hG.set 0 (.slice (some ⟨g9,0,none⟩) (L2.length+1) c9)
                  try (have hth:=hR9.there)
                  clear c0 f0
                  generalize World.setCell _ ⟨gp,0,none⟩ (.slice (some ⟨g9,0,none⟩) (L2.length+1) c9)=w8 at *
                  refine hK.out _ _ ?_ (fun hHeld=>?_)
                  · exact tr_range hA
                  clear hK K
                  try simp only[Act.put,List.setIfInBounds_toArray,List.set_cons_zero,List.set_cons_succ]
                  refine wpAnyH_done (by kernel_rfl) ?_ _
                  refine NoPanic.normal ?_
                  go_wp2_with fail
                  go_ret
                  obtain ⟨hp,hn⟩:=HPs.out.more (t3:=t3) HN4.out hO hG hR9 h9.out.2.2 HLk3.out HO1.out HO2.out
                  exact ⟨true,(.slice (some ⟨g9,0,none⟩) (L2.length+1) c9),L2++[t3],rfl,HKs.out.then HNs.out hO,HNs.out.then HKs.out.size hn,hp,HDec.out,fun _=>HRel.out⟩
                refine AllReadyH.cons (o:=⟨none,_,_,_,_,_⟩) rfl (fun K hK=>?_) AllReadyH.nil
                · go_simp
                  have hR9:ResRow _ _ _ _:=ownsRow_setCell_other (a:=⟨gp,0,none⟩) hR9 (fun e=>h9.out.1 (by injection e)) (.slice (some ⟨g9,0,none⟩) (L2.length+1) c9)
                  have hO:=hO.cell (.slice (some ⟨g9,0,none⟩) (L2.length+1) c9)
                  have hA:=hA.other (p:=⟨gp,0,none⟩) HNo.out.2.2 (.slice (some ⟨g9,0,none⟩) (L2.length+1) c9)
                  have hG:At _ gp 34 #[(.slice (some ⟨g9,0,none⟩) (L2.length+1) c9)]:=hG.set 0 (.slice (some ⟨g9,0,none⟩) (L2.length+1) c9)
                  try (have hth:=hR9.there)
                  clear c0 f0
                  generalize World.setCell _ ⟨gp,0,none⟩ (.slice (some ⟨g9,0,none⟩) (L2.length+1) c9)=w8 at *
                  refine hK.out _ _ ?_ (fun hHeld=>?_)
                  · exact tr_range hA
                  clear hK K
                  try simp only[Act.put,List.setIfInBounds_toArray,List.set_cons_zero,List.set_cons_succ]
                  refine wpAnyH_ready (rs:=[9]) (by kernel_rfl) (by simp) ?_
                  refine AllReadyH.cons (o:=⟨none,_,_,_,_,_⟩) rfl (fun K hK=>?_) AllReadyH.nil
                  refine step_store_mid (by rfl) 27 _ _ (by rfl) g9 (L2.length*9) t3.cs.toArray (by first | rfl | (simp;done)) (by rfl) hth (by kernel_rfl) (Tr.one _) ?_
                  have hR9:=hR9.put t3
                  have hO:=hO.cells h9.out.2.2 (L2.length*9) t3.cs.toArray.toList
                  have hA:=at_cells hA h9.out.2.1.symm (L2.length*9) t3.cs.toArray.toList
                  have hG:=at_cells hG h9.out.1.symm (L2.length*9) t3.cs.toArray.toList
                  have c0:=hG.cell 0
                  have f0:=hG.free 0
                  clear hth
                  generalize World.setCells _ g9 (L2.length*9) t3.cs.toArray.toList=w7 at hR9 hO hA hG c0 f0 ⊢
                  refine hK.out _ _ ?_ (fun hHeld=>?_)
                  · exact tr_range hA
                  clear hK K
                  try simp only[Act.put,List.setIfInBounds_toArray,List.set_cons_zero,List.set_cons_succ]
                  refine wpAnyH_done (by kernel_rfl) ?_ _
                  refine NoPanic.normal ?_
                  go_wp2_with fail
                  go_ret
                  obtain ⟨hp,hn⟩:=HPs.out.more (t3:=t3) HN4.out hO hG hR9 h9.out.2.2 HLk3.out HO1.out HO2.out
                  exact ⟨true,(.slice (some ⟨g9,0,none⟩) (L2.length+1) c9),L2++[t3],rfl,HKs.out.then HNs.out hO,HNs.out.then HKs.out.size hn,hp,HDec.out,fun _=>HRel.out⟩
theorem tAddLooks:∀k,k≤40→AddIs k
  | 0,_=>fun t w gp v L W hin _ _=>hin.ins.1.elim
  | k+1,h=>addStep k (tAddLooks k (by omega)) h
end Go.Proofs.YtgmpfnfomgadeaaGreat
