/- looks.Plan, as it is made: a box with a row of looks of the call's own; what the looks of patterns are. -/
import Derived.Test.YtgmpfnfomgadeaaGreatMar
import Derived.Test.YtgmpfnfomgadeaaGreatMao
set_option linter.unusedSimpArgs false
set_option linter.unusedVariables false
namespace Go.Proofs.YtgmpfnfomgadeaaGreat
open Go.RowKit
theorem eqb_iff {a b:St}:a.eqb b=true↔a=b:=by
  obtain ⟨a0,a1,a2,a3⟩:=a
  obtain ⟨b0,b1,b2,b3⟩:=b
  simp[St.eqb,and_assoc]
theorem same_iff:∀(k k':Nat) (m:Int) (a b:Tr),Tr.Lv k a→Tr.Lv k b→k≤k'→(k:Int)≤m→(sameS k' m a b=true↔a.strip k=b.strip k)
  | 0,_,_,_,_,h,_,_,_=>h.elim
  | k+1,k',m,a,b,ha,hb,hk,hm=>by
    obtain ⟨k',rfl⟩:∃x,k'=x+1:=⟨k'-1,by omega⟩
    rw[sameS_iff (by omega)]
    have ih:∀x∈a.parts.zip b.parts,(sameS k' (m-1) x.1 x.2=true↔x.1.strip k=x.2.strip k):=fun x hx=>by
      have:=List.of_mem_zip hx
      exact same_iff k k' (m-1) x.1 x.2 (ha _ this.1) (hb _ this.2) (by omega) (by omega)
    constructor
    · rintro ⟨h1,h2⟩
      have h1':=h1
      unfold ownSame at h1
      simp only[Bool.and_eq_true,beq_iff_eq] at h1
      obtain ⟨e1,e2,e3,e4,e5,e6⟩:=h1
      rw[eqb_iff] at e2
      have e7:a.parts.map (Tr.strip k)=b.parts.map (Tr.strip k):=by
        apply List.ext_getElem
        · rw[List.length_map,List.length_map];exact e6
        · intro i h3 h4
          rw[List.length_map] at h3 h4
          rw[List.getElem_map,List.getElem_map]
          have hz:(a.parts[i],b.parts[i])∈a.parts.zip b.parts:=by
            rw[List.mem_iff_getElem]
            exact ⟨i,by rw[List.length_zip];omega,by simp⟩
          exact (ih _ hz).1 (h2 _ hz)
      show Tr.node _ _ _ _ _ _ _ _ _=Tr.node _ _ _ _ _ _ _ _ _
      rw[e1,e2,e3,e4,e5,e6,e7]
    · intro h
      obtain ⟨e1,e2,e3,e4,e5,e6,e7⟩:=strip_parts h
      refine ⟨own_yes e1 (by rw[e2];exact St.eqb_self _) e3 e4 e5 e6,fun x hx=>(ih x hx).2 ?_⟩
      obtain ⟨i,hi,rfl⟩:=List.getElem_of_mem hx
      rw[List.getElem_zip]
      rw[List.length_zip] at hi
      have h3:=congrArg (fun l=>l[i]?) e7
      simp only[List.getElem?_map] at h3
      rw[List.getElem?_eq_getElem (by omega),List.getElem?_eq_getElem (by omega)] at h3
      simpa using h3
theorem bare_lv:∀{k:Nat} {t:Tr},Tr.Lv k t→Tr.Lv k (bareT t)
  | 0,_,h=>h
  | k+1,t,h=>by cases t;exact h
theorem bare_strip {k:Nat} {a b:Tr} (h:a.strip k=b.strip k):(bareT a).strip k=(bareT b).strip k:=by
  cases k with
  | zero=>rfl
  | succ k =>
    obtain ⟨e1,e2,e3,e4,e5,e6,e7⟩:=strip_parts h
    cases a with
    | node k1 s1 A1 n1 c1 p1 l1 h1 g1 =>
      cases b with
      | node k2 s2 A2 n2 c2 p2 l2 h2 g2 =>
        have e1:k1=k2:=e1
        have e2:s1=s2:=e2
        have e3:l1=l2:=e3
        have e4:h1=h2:=e4
        have e6:p1.length=p2.length:=e6
        have e7:p1.map (Tr.strip k)=p2.map (Tr.strip k):=e7
        show Tr.node k1 s1 none p1.length 0 (p1.map (Tr.strip k)) l1 h1 false=Tr.node k2 s2 none p2.length 0 (p2.map (Tr.strip k)) l2 h2 false
        rw[e1,e2,e3,e4,e6,e7]
def lookOne (W:List Tr) (t:Tr):List Tr:=if W.any (fun q=>sameS 40 40 q (bareT t))=true then W else W++[bareT t]
def refL:Nat→List Tr→Tr→List Tr
  | 0,W,_=>W
  | k+1,W,t=>if t.kind<8 then t.parts.foldl (refL k) W else lookOne (t.parts.foldl (refL k) W) t
theorem foldl_len {f:List Tr→Tr→List Tr} (h:∀W t,W.length≤(f W t).length):∀(l:List Tr) (W:List Tr),W.length≤(l.foldl f W).length
  | [],_=>Nat.le_refl _
  | t::l,W=>Nat.le_trans (h W t) (foldl_len h l (f W t))
theorem one_len (W:List Tr) (t:Tr):W.length≤(lookOne W t).length:=by
  unfold lookOne
  split
  · exact Nat.le_refl _
  · rw[List.length_append];omega
theorem refL_len:∀(k:Nat) (W:List Tr) (t:Tr),W.length≤(refL k W t).length
  | 0,_,_=>Nat.le_refl _
  | k+1,W,t=>by
    have h:=foldl_len (refL_len k) t.parts W
    unfold refL
    split
    · exact h
    · exact Nat.le_trans h (one_len _ t)
theorem foldl_take {f:List Tr→Tr→List Tr} {l:List Tr} {W:List Tr} {j:Nat} (hj:j<l.length):(l.take (j+1)).foldl f W=f ((l.take j).foldl f W) l[j]:=by
  rw[List.take_succ_eq_append_getElem hj,List.foldl_append]
  rfl
theorem foldl_more {f:List Tr→Tr→List Tr} (h:∀W t,W.length≤(f W t).length) (l:List Tr) (W:List Tr) (j:Nat):((l.take j).foldl f W).length≤(l.foldl f W).length:=by
  have e:l.foldl f W=(l.drop j).foldl f ((l.take j).foldl f W):=by rw[←List.foldl_append,List.take_append_drop]
  rw[e]
  exact foldl_len h _ _
def RelL (L W:List Tr):Prop:=L.map (Tr.strip 40)=W.map (Tr.strip 40)∧(∀t∈L,Tr.Lv 40 t)∧∀t∈W,Tr.Lv 40 t
theorem RelL.length {L W:List Tr} (h:RelL L W):L.length=W.length:=by have:=congrArg List.length h.1;simpa using this
theorem RelL.at {L W:List Tr} (h:RelL L W) (j:Nat) (h1:j<L.length) (h2:j<W.length):L[j].strip 40=W[j].strip 40:=by
  have h3:=congrArg (fun l=>l[j]?) h.1
  simp only[List.getElem?_map] at h3
  rw[List.getElem?_eq_getElem h1,List.getElem?_eq_getElem h2] at h3
  simpa using h3
theorem RelL.any {L W:List Tr} (h:RelL L W) {t:Tr} (ht:Tr.Lv 40 t):L.any (fun q=>sameS 40 40 q t)=W.any (fun q=>sameS 40 40 q t):=by
  have key:∀{A B:List Tr},RelL A B→A.any (fun q=>sameS 40 40 q t)=true→B.any (fun q=>sameS 40 40 q t)=true:=fun {A B} h ha=>by
    rw[List.any_eq_true] at ha ⊢
    obtain ⟨q,hq,hs⟩:=ha
    obtain ⟨j,hj,rfl⟩:=List.getElem_of_mem hq
    have hl:=h.length
    refine ⟨B[j]'(by omega),List.getElem_mem _,?_⟩
    rw[same_iff 40 40 40 _ _ (h.2.2 _ (List.getElem_mem _)) ht (Nat.le_refl _) (by omega),←h.at j hj (by omega),←same_iff 40 40 40 _ _ (h.2.1 _ hq) ht (Nat.le_refl _) (by omega)]
    exact hs
  rw[Bool.eq_iff_iff]
  exact ⟨key h,key ⟨h.1.symm,h.2.2,h.2.1⟩⟩
theorem RelL.snoc {L W:List Tr} (h:RelL L W) {s t:Tr} (e:s.strip 40=t.strip 40) (hs:Tr.Lv 40 s) (ht:Tr.Lv 40 t):RelL (L++[s]) (W++[t]) :=
  ⟨by rw[List.map_append,List.map_append,h.1,List.map_singleton,List.map_singleton,e],fun q hq=>by
    rcases List.mem_append.1 hq with hq | hq
    · exact h.2.1 q hq
    · rw[List.mem_singleton.1 hq];exact hs,fun q hq=>by
    rcases List.mem_append.1 hq with hq | hq
    · exact h.2.2 q hq
    · rw[List.mem_singleton.1 hq];exact ht⟩
theorem off_new {w:World} {b:Nat} (hb:w.heap.size≤b):∀{k:Nat} {t:Tr},Tr.In w k t→Tr.Off b k t
  | 0,_,_=>trivial
  | k+1,t,h=>⟨fun h0 b' off e q=>by
      obtain ⟨b2,o2,e',hlt,_⟩:=h.2.2.1 h0
      rw[e] at e'
      injection e' with e'
      injection e' with e1
      omega,fun p hp=>by
      obtain ⟨j,hj,rfl⟩:=List.getElem_of_mem hp
      exact off_new hb (h.2.2.2 j hj)⟩
structure KeepP (gp:Nat) (v:Value) (w w':World):Prop where
  os:w'.os=w.os
  tape:w'.tape=w.tape
  output:w'.output=w.output
  size:w.heap.size≤w'.heap.size
  block:∀b,b<w.heap.size→b≠gp→v.ownBlock≠some b→w'.heap[b]?=w.heap[b]?
theorem KeepP.of {gp:Nat} {v:Value} {w w':World} (h:Below w.heap.size w w'):KeepP gp v w w':=⟨h.os,h.tape,h.output,h.size,fun b hb _ _=>h.block b hb⟩
theorem KeepP.refl (gp:Nat) (v:Value) (w:World):KeepP gp v w w:=KeepP.of (Below.refl _ _)
def NewV (w:World) (v v':Value):Prop:=v'.ownBlock=v.ownBlock∨∀b,v'.ownBlock=some b→w.heap.size≤b
theorem KeepP.then {gp:Nat} {v v1:Value} {w w1 w2:World} (h:KeepP gp v w w1) (hv:NewV w v v1) (k:KeepP gp v1 w1 w2):KeepP gp v w w2 :=
  ⟨k.os.trans h.os,k.tape.trans h.tape,k.output.trans h.output,Nat.le_trans h.size k.size,fun b hb hg hn=>by
    rw[k.block b (Nat.lt_of_lt_of_le hb h.size) hg (fun e=>by
      rcases hv with q | q
      · exact hn (q.symm.trans e)
      · have:=q b e;omega),h.block b hb hg hn]⟩
theorem NewV.then {v v1 v2:Value} {w w1:World} (h:NewV w v v1) (hs:w.heap.size≤w1.heap.size) (k:NewV w1 v1 v2):NewV w v v2:=by
  rcases k with k | k
  · rcases h with h | h
    · exact Or.inl (k.trans h)
    · exact Or.inr (fun b e=>h b (k.symm.trans e))
  · exact Or.inr (fun b e=>Nat.le_trans hs (k b e))
structure PlanAt (w:World) (gp:Nat) (v:Value) (L:List Tr):Prop where
  box:At w gp 34 #[v]
  row:ResRow w (gp+1) v L
  few:L.length≤4
  each:∀t∈L,LkOk w t
  offp:∀t∈L,Tr.Off gp 40 t
  offr:∀t∈L,∀b,v.ownBlock=some b→Tr.Off b 40 t
theorem ResRow.nextB {w w':World} {base:Nat} {v:Value} {L:List Tr} (h:ResRow w base v L) (hb:Below w.heap.size w w'):ResRow w' base v L:=h.step hb rfl
theorem PlanAt.next {w w':World} {gp:Nat} {v:Value} {L:List Tr} (h:PlanAt w gp v L) (hb:Below w.heap.size w w'):PlanAt w' gp v L :=
  ⟨At.below h.box hb h.box.lt,h.row.nextB hb,h.few,fun t ht=>(h.each t ht).next hb,h.offp,h.offr⟩
theorem PlanAt.lks {w:World} {gp:Nat} {v:Value} {L:List Tr} (h:PlanAt w gp v L):LksAt w v L:=⟨h.row.pats (fun t ht=>(h.each t ht).ins.1),h.each⟩
theorem PlanAt.rowlt {w:World} {gp:Nat} {v:Value} {L:List Tr} (h:PlanAt w gp v L) {b:Nat} (e:v.ownBlock=some b):gp<b∧b<w.heap.size:=by
  have:=h.row.lt b e
  omega
theorem KeepP.at {gp g:Nat} {v:Value} {w w':World} {ty:TypeId} {cs:Array Value} (h:KeepP gp v w w') (ha:At w g ty cs) (hg:g≠gp) (hv:v.ownBlock≠some g):At w' g ty cs:=(h.block g ha.lt hg hv).trans ha
theorem KeepP.ins {gp:Nat} {v:Value} {w w':World} {k:Nat} {t:Tr} (h:KeepP gp v w w') (hi:Tr.Ins w k t) (h1:Tr.Off gp k t) (h2:∀b,v.ownBlock=some b→Tr.Off b k t):Tr.Ins w' k t :=
  hi.frame (X:=fun b=>b=gp∨v.ownBlock=some b) h.size (fun b hb hx=>h.block b hb (fun e=>hx (Or.inl e)) (fun e=>hx (Or.inr e))) (fun b q=>by
    rcases q with rfl | q
    · exact h1
    · exact h2 b q)
theorem KeepP.lk {gp:Nat} {v:Value} {w w':World} {t:Tr} (h:KeepP gp v w w') (hi:LkOk w t) (h1:Tr.Off gp 40 t) (h2:∀b,v.ownBlock=some b→Tr.Off b 40 t):LkOk w' t :=
  hi.frame (X:=fun b=>b=gp∨v.ownBlock=some b) h.size (fun b hb hx=>h.block b hb (fun e=>hx (Or.inl e)) (fun e=>hx (Or.inr e))) (fun b q=>by
    rcases q with rfl | q
    · exact h1
    · exact h2 b q)
theorem append_blank (w:World) (base g8:Nat) (v:Value) (L:List Tr) (ty:TypeId) (h6:ResRow w base v L) (h8:At w g8 27 Tr.blank.cs.toArray) (hbw:base≤w.heap.size) (hn:L.length≤100000) :
    ∃v' w',(Builtin.append_ #[25,25] ty #[v,.slice (some ⟨g8,0,none⟩) 1 1]).run Tryz.prog w=.ok v' w'∧(∃g9 c9,v'=.slice (some ⟨g9,0,none⟩) (L.length+1) c9∧ResRow w' base (.slice (some ⟨g9,0,none⟩) (L.length+1) c9) (L++[Tr.blank])∧w.grownBy w' v.ownBlock∧(v.ownBlock=some g9∨g9=w.heap.size)):=by
  obtain ⟨i,hi,hz,hsz,hby⟩:=info_parts info_reL
  obtain ⟨v',w',hr,h2,h3,_,h5⟩:=run_append_own_at (P:=Tryz.prog) w base 25 ty 27 i _ 9 88 Tryz.underlying25 hi hz hsz hby rfl (by omega) v L.length (csL L) h6 ⟨g8,0,none⟩ 1 1 Tr.blank.cs rfl (World.news_of_block h8) (by have:=csL_one [Tr.blank];simpa [csL] using this) (by unfold maxLen;omega) (by omega) hbw
  have hrow:ResRow w' base v' (L++[Tr.blank]):=by
    unfold ResRow
    rw[List.length_append,←csL_snoc]
    exact h2
  rcases id hrow.2 with ⟨_,q⟩ | ⟨g9,c9,cur,e,_⟩
  · rw[List.length_append] at q
    exact absurd q (by simp)
  · rw[List.length_append] at e
    refine ⟨v',w',hr,g9,c9,e,by rw[e] at hrow;exact hrow,h3,?_⟩
    rw[e] at h5
    rcases h5 with h5 | h5
    · exact Or.inl h5.symm
    · injection h5 with h5
      exact Or.inr h5
theorem set_all:∀(vs:List Value) (base g n c j:Nat) (xs:List Value) (w:World),w.ownsRow base 27 9 (.slice (some ⟨g,0,none⟩) n c) n xs→∃ys,(w.setCells g j vs).ownsRow base 27 9 (.slice (some ⟨g,0,none⟩) n c) n ys∧(∀i,(i<j∨j+vs.length≤i)→ys[i]?=xs[i]?)∧∀i,i<vs.length→j+i<xs.length→ys[j+i]?=vs[i]?
  | [],base,g,n,c,j,xs,w,h=>⟨xs,h,fun _ _=>rfl,fun i hi=>absurd hi (Nat.not_lt_zero _)⟩
  | u::vs,base,g,n,c,j,xs,w,h=>by
    obtain ⟨h1,_⟩:=h.stored j u
    obtain ⟨ys,h2,h3,h4⟩:=set_all vs base g n c (j+1) (xs.set j u) _ h1
    refine ⟨ys,h2,fun i hi=>?_,fun i hi hx=>?_⟩
    · rw[List.length_cons] at hi
      rw[h3 i (by omega),List.getElem?_set_ne (by omega)]
    · cases i with
      | zero =>
        rw[Nat.add_zero,h3 j (by omega),List.getElem?_set_self (by omega)]
        rfl
      | succ i =>
        have:=h4 i (by simpa using hi) (by rw[List.length_set];omega)
        rw[show j+(i+1)=j+1+i by omega,this]
        rfl
theorem ResRow.put {w:World} {base g c:Nat} {L:List Tr} {x:Tr} (t:Tr) (h:ResRow w base (.slice (some ⟨g,0,none⟩) (L.length+1) c) (L++[x])):ResRow (w.setCells g (L.length*9) t.cs.toArray.toList) base (.slice (some ⟨g,0,none⟩) (L.length+1) c) (L++[t]):=by
  have hl:(L++[x]).length=L.length+1:=by rw[List.length_append];rfl
  have hl2:(L++[t]).length=L.length+1:=by rw[List.length_append];rfl
  unfold ResRow at h ⊢
  rw[hl] at h
  rw[hl2]
  obtain ⟨ys,h1,h2,h3⟩:=set_all t.cs base g (L.length+1) c (L.length*9) (csL (L++[x])) w h
  have e:ys=csL (L++[t]):=by
    have hly:ys.length=(L.length+1)*9:=h1.1
    have hlx:(csL (L++[x])).length=(L.length+1)*9:=h.1
    apply List.ext_getElem?
    intro i
    rw[←csL_snoc] at h2 h3 ⊢
    by_cases hi:i<L.length*9
    · rw[h2 i (Or.inl hi),List.getElem?_append_left (by rw[csL_length];exact hi),List.getElem?_append_left (by rw[csL_length];exact hi)]
    · by_cases hi2:i<L.length*9+9
      · have:=h3 (i-L.length*9) (by rw[Tr.cs_length];omega) (by rw[List.length_append,csL_length,Tr.cs_length];omega)
        rw[show L.length*9+(i-L.length*9)=i by omega] at this
        rw[this,List.getElem?_append_right (by rw[csL_length];omega),csL_length]
      · rw[List.getElem?_eq_none (by omega),List.getElem?_eq_none (by rw[List.length_append,csL_length,Tr.cs_length];omega)]
  rw[←e]
  exact h1
theorem ResRow.there {w:World} {base g c:Nat} {L:List Tr} {x:Tr} (h:ResRow w base (.slice (some ⟨g,0,none⟩) (L.length+1) c) (L++[x])):w.there g (L.length*9) 9:=fun i hi=>by
  have hl:(L++[x]).length=L.length+1:=by rw[List.length_append];rfl
  unfold ResRow at h
  rw[hl] at h
  have hlt:L.length*9+i<(csL (L++[x])).length:=by rw[csL_length,hl];omega
  have:=World.ownsRow.cellAt h (L.length*9+i) (by omega)
  exact ⟨by rw[this,List.getElem?_eq_getElem hlt];rfl,h.frozenAt _⟩
end Go.Proofs.YtgmpfnfomgadeaaGreat
