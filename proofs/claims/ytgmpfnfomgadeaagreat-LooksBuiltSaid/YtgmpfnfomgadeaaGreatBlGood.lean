/- The looks of a pattern, as its own plan has them: what numbersOfLooks tells is what the builder asks. -/
import Derived.Test.YtgmpfnfomgadeaaGreatMas
import Derived.Test.YtgmpfnfomgadeaaGreatMbb
import Derived.Test.YtgmpfnfomgadeaaGreatMbc
set_option linter.unusedSimpArgs false
set_option linter.unusedVariables false
namespace Go.Proofs.YtgmpfnfomgadeaaGreat
open Go.RowKit
def BitsD (L:List Tr) (l bits:List Nat):Prop:=∀k (h:k<L.length) i,i<l.length+1→bitF bits k false i i=spansS l 40 L[k] i i
def HasL (W:List Tr):Nat→Tr→Prop
  | 0,_=>True
  | k+1,t=>if 8≤t.kind then ∃i,∃h:i<W.length,W[i].strip 40=(bareT t).strip 40 else ∀p∈t.parts,HasL W k p
theorem has_look {W:List Tr} {k:Nat} {t:Tr} (hk:8≤t.kind):HasL W (k+1) t↔∃i,∃h:i<W.length,W[i].strip 40=(bareT t).strip 40:=by
  show (if 8≤t.kind then _ else _)↔_
  rw[if_pos hk]
theorem has_parts {W:List Tr} {k:Nat} {t:Tr} (hk:¬8≤t.kind):HasL W (k+1) t↔∀p∈t.parts,HasL W k p:=by
  show (if 8≤t.kind then _ else _)↔_
  rw[if_neg hk]
theorem has_more {W:List Tr} (M:List Tr):∀(k:Nat) (t:Tr),HasL W k t→HasL (W++M) k t
  | 0,_,_=>trivial
  | k+1,t,h=>by
    by_cases hk:8≤t.kind
    · rw[has_look hk] at h ⊢
      obtain ⟨i,hi,e⟩:=h
      exact ⟨i,by rw[List.length_append];omega,by rw[List.getElem_append_left hi];exact e⟩
    · rw[has_parts hk] at h ⊢
      exact fun p hp=>has_more M k p (h p hp)
theorem pre_foldl {f:List Tr→Tr→List Tr} (h:∀W t,∃M,f W t=W++M):∀(l:List Tr) (W:List Tr),∃M,l.foldl f W=W++M
  | [],W=>⟨[],(List.append_nil W).symm⟩
  | t::l,W=>by
    obtain ⟨M1,e1⟩:=h W t
    obtain ⟨M2,e2⟩:=pre_foldl h l (f W t)
    exact ⟨M1++M2,by rw[List.foldl_cons,e2,e1,List.append_assoc]⟩
theorem pre_one (W:List Tr) (t:Tr):∃M,lookOne W t=W++M:=by
  unfold lookOne
  split
  · exact ⟨[],(List.append_nil W).symm⟩
  · exact ⟨_,rfl⟩
theorem pre_refL:∀(k:Nat) (W:List Tr) (t:Tr),∃M,refL k W t=W++M
  | 0,W,_=>⟨[],(List.append_nil W).symm⟩
  | k+1,W,t=>by
    obtain ⟨M1,e1⟩:=pre_foldl (pre_refL k) t.parts W
    unfold refL
    split
    · exact ⟨M1,e1⟩
    · obtain ⟨M2,e2⟩:=pre_one (t.parts.foldl (refL k) W) t
      exact ⟨M1++M2,by rw[e2,e1,List.append_assoc]⟩
theorem has_foldl {k:Nat} (hk:k≤40) (ih:∀W t,Tr.Lv k t→(∀q∈W,Tr.Lv 40 q)→HasL (refL k W t) k t):∀(l W:List Tr),(∀p∈l,Tr.Lv k p)→(∀q∈W,Tr.Lv 40 q)→∀p∈l,HasL (l.foldl (refL k) W) k p
  | [],_,_,_,p,hp=>absurd hp List.not_mem_nil
  | t::l,W,hl,hW,p,hp=>by
    have h2:=(looksR_eq (M:=40) (Nat.le_refl _) k W t hk (hl t (by simp)) hW).2
    rw[List.foldl_cons]
    rcases List.mem_cons.1 hp with rfl | hp
    · obtain ⟨M,e⟩:=pre_foldl (pre_refL k) l (refL k W p)
      rw[e]
      exact has_more M k p (ih W p (hl p (by simp)) hW)
    · exact has_foldl hk ih l _ (fun q hq=>hl q (List.mem_cons_of_mem _ hq)) h2 p hp
theorem has_refL:∀(k:Nat) (W:List Tr) (t:Tr),k≤40→Tr.Lv k t→(∀q∈W,Tr.Lv 40 q)→HasL (refL k W t) k t
  | 0,_,_,_,_,_=>trivial
  | k+1,W,t,hk,ht,hW=>by
    have h1:=has_foldl (k:=k) (by omega) (fun W t h1 h2=>has_refL k W t (by omega) h1 h2) t.parts W ht hW
    by_cases h8:8≤t.kind
    · rw[has_look h8]
      have hq:∀q∈t.parts.foldl (refL k) W,Tr.Lv 40 q:=by
        have h3:∀(l W:List Tr),(∀p∈l,Tr.Lv k p)→(∀q∈W,Tr.Lv 40 q)→∀q∈l.foldl (refL k) W,Tr.Lv 40 q:=by
          intro l
          induction l with
          | nil=>exact fun W _ h=>h
          | cons p l ih =>
            intro W hl hW
            rw[List.foldl_cons]
            exact ih _ (fun q hq=>hl q (List.mem_cons_of_mem _ hq)) (looksR_eq (M:=40) (Nat.le_refl _) k W p (by omega) (hl p (by simp)) hW).2
        exact h3 t.parts W ht hW
      have e1:refL (k+1) W t=lookOne (t.parts.foldl (refL k) W) t:=by
        show (if t.kind<8 then _ else _)=_
        rw[if_neg (by omega)]
      rw[e1]
      by_cases ha:(t.parts.foldl (refL k) W).any (fun q=>sameS 40 40 q (bareT t))=true
      · have e2:lookOne (t.parts.foldl (refL k) W) t=t.parts.foldl (refL k) W:=if_pos ha
        rw[e2]
        obtain ⟨q,hq1,hq2⟩:=List.any_eq_true.1 ha
        obtain ⟨i,hi,rfl⟩:=List.getElem_of_mem hq1
        exact ⟨i,hi,(same_iff 40 40 40 _ _ (hq _ hq1) (bare_lv (lv_le (k:=k+1) ht (by omega))) (Nat.le_refl _) (by omega)).1 hq2⟩
      · have e2:lookOne (t.parts.foldl (refL k) W) t=t.parts.foldl (refL k) W++[bareT t]:=if_neg ha
        rw[e2]
        exact ⟨(t.parts.foldl (refL k) W).length,by rw[List.length_append,List.length_singleton];omega,by simp⟩
    · have e1:refL (k+1) W t=t.parts.foldl (refL k) W:=by
        show (if t.kind<8 then _ else _)=_
        rw[if_pos (by omega)]
      rw[has_parts h8,e1]
      exact h1
theorem strip_up {k:Nat} {a b:Tr} (ha:Tr.Lv k a) (hb:Tr.Lv k b) (hk:k≤40) (h:a.strip k=b.strip k):a.strip 40=b.strip 40 :=
  (same_iff 40 40 40 a b (lv_le ha hk) (lv_le hb hk) (Nat.le_refl _) (by omega)).1 ((same_iff k 40 40 a b ha hb hk (by omega)).2 h)
theorem has_congr {W:List Tr}:∀(k:Nat) (a b:Tr),k≤40→Tr.Lv k a→Tr.Lv k b→a.strip k=b.strip k→HasL W k a→HasL W k b
  | 0,_,_,_,_,_,_,_=>trivial
  | k+1,a,b,hk,ha,hb,e,h=>by
    obtain ⟨e1,_,_,_,_,e6,e7⟩:=strip_parts e
    by_cases h8:8≤a.kind
    · rw[has_look h8] at h
      rw[has_look (by omega)]
      obtain ⟨i,hi,q⟩:=h
      exact ⟨i,hi,q.trans (bare_strip (strip_up ha hb hk e))⟩
    · rw[has_parts h8] at h
      rw[has_parts (by omega)]
      intro p hp
      obtain ⟨j,hj,rfl⟩:=List.getElem_of_mem hp
      have hj':j<a.parts.length:=by omega
      exact has_congr k a.parts[j] b.parts[j] (by omega) (ha _ (List.getElem_mem hj')) (hb _ hp) (strip_at e7 hj' hj) (h _ (List.getElem_mem hj'))
theorem idx_has {L W:List Tr} (h:RelL L W) (hu:Uniq W) {i:Nat} (hi:i<W.length) {t:Tr} (ht:Tr.Lv 40 t) (e:W[i].strip 40=(bareT t).strip 40):idxS L t=i:=by
  have hl:=h.length
  have hb:=bare_lv ht
  unfold idxS
  have hx:=idx_is (f:=fun q=>sameS 40 40 q (bareT t)) L i 0 (by omega) (by
    show sameS 40 40 L[i] (bareT t)=true
    rw[same_iff 40 40 40 _ _ (h.2.1 _ (List.getElem_mem _)) hb (Nat.le_refl _) (by omega),h.at i (by omega) hi]
    exact e) (fun k hk=>by
    show sameS 40 40 (L[k]'(by omega)) (bareT t)=false
    have h1:=List.pairwise_iff_getElem.1 hu.one k i (by omega) hi hk
    cases hc:sameS 40 40 (L[k]'(by omega)) (bareT t) with
    | false=>rfl
    | true =>
      rw[same_iff 40 40 40 _ _ (h.2.1 _ (List.getElem_mem _)) hb (Nat.le_refl _) (by omega),h.at k (by omega) (by omega),←e,←same_iff 40 40 40 _ _ (h.2.2 _ (List.getElem_mem _)) (h.2.2 _ (List.getElem_mem _)) (Nat.le_refl _) (by omega),h1] at hc
      cases hc)
  rw[hx,Nat.zero_add]
theorem goodP_map {G:Tr→List Int→Prop} {f:Tr→List Int}:∀(ps:List Tr),(∀p∈ps,G p (f p))→GoodP G ps (ps.flatMap f)
  | [],_=>rfl
  | p::ps,h=>⟨f p,ps.flatMap f,by rw[List.flatMap_cons],h p (by simp),goodP_map ps (fun q hq=>h q (List.mem_cons_of_mem _ hq))⟩
theorem good_look {L W:List Tr} (h:RelL L W) (hu:Uniq W) (h4:W.length≤4) {k:Nat} {t:Tr} (hk:k≤40) (ht:Tr.Lv k t) {i:Nat} (hi:i<W.length) (e:W[i].strip 40=(bareT t).strip 40):LookD (BitsD L) k t (idxS L t)∧0≤idxS L t∧idxS L t<4:=by
  have hl:=h.length
  rw[idx_has h hu hi (lv_le ht hk) e]
  refine ⟨⟨by omega,by omega,fun l bits hb h8 hd j hj=>?_⟩,by omega,by omega⟩
  have h1:=hd i (by omega) j hj
  rw[Int.toNat_natCast,h1,spans_congr l 40 _ _ ((h.at i (by omega) hi).trans e),any_lv (spansS l) (spansS_lv l) (bare_lv (lv_le ht hk)) (bare_lv ht)]
theorem good_nums {L W:List Tr} (h:RelL L W) (hu:Uniq W) (h4:W.length≤4):∀(k:Nat) (t:Tr),k≤40→Tr.Lv k t→HasL W k t→GoodK (BitsD L) k t (numsS L k t)∧numOk L k t
  | 0,_,_,h,_=>h.elim
  | k+1,t,hk,ht,hh=>by
    by_cases h8:8≤t.kind
    · rw[has_look h8] at hh
      obtain ⟨i,hi,e⟩:=hh
      obtain ⟨g1,g2⟩:=good_look h hu h4 hk ht hi e
      rw[nums_look h8]
      refine ⟨?_,?_⟩
      · unfold GoodK
        rw[if_pos h8]
        exact ⟨_,rfl,g1⟩
      · show (if 8≤t.kind then _ else _)
        rw[if_pos h8]
        exact g2
    · rw[has_parts h8] at hh
      have ih:=fun p hp=>good_nums h hu h4 k p (by omega) (ht p hp) (hh p hp)
      rw[nums_parts h8]
      refine ⟨?_,?_⟩
      · unfold GoodK
        rw[if_neg h8]
        exact goodP_map _ (fun p hp=>(ih p hp).1)
      · show (if 8≤t.kind then _ else _)
        rw[if_neg h8]
        exact fun p hp=>(ih p hp).2
theorem nums_len (L:List Tr):∀(k:Nat) (t:Tr),(numsS L k t).length≤massS k t
  | 0,_=>Nat.zero_le _
  | k+1,t=>by
    by_cases h8:8≤t.kind
    · rw[nums_look h8]
      show 1≤1+_
      omega
    · rw[nums_parts h8]
      show _≤1+(t.parts.map (massS k)).sum
      have:∀ps:List Tr,(ps.flatMap (numsS L k)).length≤(ps.map (massS k)).sum:=fun ps=>by
        induction ps with
        | nil=>exact Nat.le_refl _
        | cons p ps ih =>
          rw[List.flatMap_cons,List.length_append,List.map_cons,List.sum_cons]
          have:=nums_len L k p
          omega
      have:=this t.parts
      omega
theorem bare_formed:∀{k:Nat} {t:Tr},formedS k t=true→formedS k (bareT t)=true
  | 0,_,h=>by cases h
  | k+1,.node kd s A n c ps lo hi neg,h=>by
    have h0:(ownF (.node kd s A n c ps lo hi neg)&&ps.all (formedS k))=true:=h
    rw[Bool.and_eq_true] at h0
    show (ownF (.node kd s A n c ps lo hi false)&&ps.all (formedS k))=true
    rw[Bool.and_eq_true]
    refine ⟨?_,h0.2⟩
    have h1:=of_decide_eq_true h0.1
    exact decide_eq_true ⟨h1.1,h1.2.1,h1.2.2.1,Or.inr (Or.inr rfl),h1.2.2.2.2.1,h1.2.2.2.2.2⟩
theorem form_refL:∀(k:Nat) (W:List Tr) (t:Tr),k≤40→Tr.Lv k t→formedS k t=true→(∀q∈W,formedS 40 q=true)→∀q∈refL k W t,formedS 40 q=true
  | 0,_,_,_,h,_,_=>h.elim
  | k+1,W,t,hk,ht,hf,hW=>by
    have hp:t.parts.all (formedS k)=true:=by
      have h0:(ownF t&&t.parts.all (formedS k))=true:=hf
      rw[Bool.and_eq_true] at h0
      exact h0.2
    have h3:∀(l W:List Tr),(∀p∈l,Tr.Lv k p∧formedS k p=true)→(∀q∈W,formedS 40 q=true)→∀q∈l.foldl (refL k) W,formedS 40 q=true:=by
      intro l
      induction l with
      | nil=>exact fun W _ h=>h
      | cons p l ih =>
        intro W hl hW
        rw[List.foldl_cons]
        exact ih _ (fun q hq=>hl q (List.mem_cons_of_mem _ hq)) (form_refL k W p (by omega) (hl p (by simp)).1 (hl p (by simp)).2 hW)
    have h4:=h3 t.parts W (fun p q=>⟨ht p q,List.all_eq_true.1 hp p q⟩) hW
    unfold refL
    split
    · exact h4
    · unfold lookOne
      split
      · exact h4
      · intro q hq
        rcases List.mem_append.1 hq with hq | hq
        · exact h4 q hq
        · rw[List.mem_singleton.1 hq]
          have ht40:Tr.Lv 40 t:=lv_le (k:=k+1) ht (by omega)
          refine bare_formed ?_
          rw[any_lv formedS formedS_lv ht40 ht]
          exact hf
theorem rel_formed {L W:List Tr} (h:RelL L W) (hW:∀q∈W,formedS 40 q=true):∀q∈L,formedS 40 q=true:=fun q hq=>by
  obtain ⟨i,hi,rfl⟩:=List.getElem_of_mem hq
  have hl:=h.length
  rw[formedS_congr 40 _ _ (h.at i hi (by omega))]
  exact hW _ (List.getElem_mem _)
end Go.Proofs.YtgmpfnfomgadeaaGreat
