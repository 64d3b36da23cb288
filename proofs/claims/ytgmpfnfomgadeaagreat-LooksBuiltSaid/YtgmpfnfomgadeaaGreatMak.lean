/- Joined: TreeSizeS, RefFormedAt, RefFormedA, RefFormedB. -/
import Derived.Test.YtgmpfnfomgadeaaGreatMaa
import Derived.Test.YtgmpfnfomgadeaaGreatMab
import Derived.Test.YtgmpfnfomgadeaaGreatProg
import Derived.Test.YtgmpfnfomgadeaaGreatMad
import Derived.Test.YtgmpfnfomgadeaaGreatMah
/- tree's own size of a pattern, against the reference's depth and size. No program is named here. -/
namespace Go.Proofs.YtgmpfnfomgadeaaGreat
open Go.RowKit
def maxT (lo hi:Int):Int:=if hi≤lo then (if 1≤lo then lo else 1) else (if 1≤hi then hi else 1)
def oftenS (kind lo hi s:Int):Int:=if kind=7∧0<s then cut1001 (maxT lo hi) else 1
def sizeF:Nat→Int→Tr→Int
  | 0,_,_=>0
  | k+1,L,t=>if 40<L then 1001 else cut1001 (1+sumS (t.parts.map (sizeF k (L+1)))*oftenS t.kind t.lo t.hi (sumS (t.parts.map (sizeF k (L+1)))))
theorem maxT_ge (lo hi:Int):1≤maxT lo hi:=by unfold maxT;(repeat' split)<;>omega
theorem often_ge (kind lo hi s:Int):1≤oftenS kind lo hi s∧oftenS kind lo hi s≤1001:=by
  have:=maxT_ge lo hi
  unfold oftenS cut1001;(repeat' split)<;>omega
theorem sizeF_ge:∀(k:Nat) (L:Int) (t:Tr),0≤sizeF k L t
  | 0,_,_=>Int.le_refl _
  | k+1,L,t=>by
    show 0≤(if 40<L then 1001 else cut1001 (1+_*_))
    split
    · omega
    · refine cut1001_ge _ ?_
      have h:=sumS_ge (t.parts.map (sizeF k (L+1))) (by
        intro x hx
        rw[List.mem_map] at hx
        obtain ⟨p,_,rfl⟩:=hx
        exact sizeF_ge k _ p)
      have:=Int.mul_nonneg h (show 0≤oftenS t.kind t.lo t.hi (sumS (t.parts.map (sizeF k (L+1)))) by have:=often_ge t.kind t.lo t.hi (sumS (t.parts.map (sizeF k (L+1))));omega)
      omega
theorem sizeF_le (k:Nat) (L:Int) (t:Tr):sizeF k L t≤1001:=by
  cases k with
  | zero=>show (0:Int)≤1001;omega
  | succ k =>
    show (if 40<L then 1001 else cut1001 (1+_*_))≤1001
    split
    · omega
    · exact cut1001_le _
def sizeFTo (k:Nat) (L:Int) (t:Tr) (j:Nat):Int:=sumS ((t.parts.take j).map (sizeF k L))
theorem sizeFTo_zero (k:Nat) (L:Int) (t:Tr):sizeFTo k L t 0=0:=rfl
theorem sizeFTo_succ (k:Nat) (L:Int) (t:Tr) (j:Nat) (h:j<t.parts.length):sizeFTo k L t (j+1)=cut1001 (sizeFTo k L t j+sizeF k L t.parts[j]):=by
  unfold sizeFTo;rw[List.take_succ_eq_append_getElem h,List.map_append,List.map_singleton,sumS_snoc]
theorem sizeFTo_mono (k:Nat) (L:Int) (t:Tr) (j:Nat):∀i,sizeFTo k L t j=1001→j+i≤t.parts.length→sizeFTo k L t (j+i)=1001
  | 0,h,_=>h
  | i+1,h,hl=>by
    have h1:=sizeFTo_mono k L t j i h (by omega)
    rw[show j+(i+1)=(j+i)+1 by omega,sizeFTo_succ k L t (j+i) (by omega),h1]
    have:=sizeF_ge k L (t.parts[j+i]'(by omega))
    unfold cut1001;split<;>omega
theorem sizeF_deep (k:Nat) {L:Int} (t:Tr) (h:40<L):sizeF (k+1) L t=1001:=by show (if _ then _ else _)=_;rw[if_pos h]
theorem sizeF_end (k:Nat) {L:Int} (t:Tr) (h:¬40<L):cut1001 (1+sizeFTo k (L+1) t t.parts.length*oftenS t.kind t.lo t.hi (sizeFTo k (L+1) t t.parts.length))=sizeF (k+1) L t:=by
  unfold sizeFTo;rw[List.take_length];show _=(if _ then _ else _);rw[if_neg h]
theorem sizeF_early (k:Nat) {L:Int} (t:Tr) (h:¬40<L) (j:Nat) (hj:j<t.parts.length) (hs:1001≤sizeFTo k (L+1) t j+sizeF k (L+1) t.parts[j]):sizeF (k+1) L t=1001:=by
  have h1:sizeFTo k (L+1) t (j+1)=1001:=by rw[sizeFTo_succ k (L+1) t j hj];unfold cut1001;split<;>omega
  have h2:=sizeFTo_mono k (L+1) t (j+1) (t.parts.length-(j+1)) h1 (by omega)
  rw[show j+1+(t.parts.length-(j+1))=t.parts.length by omega] at h2
  rw[←sizeF_end k t h,h2]
  obtain ⟨o,ho⟩:∃o,oftenS t.kind t.lo t.hi 1001=o:=⟨_,rfl⟩
  have:=often_ge t.kind t.lo t.hi 1001
  rw[ho] at this ⊢
  unfold cut1001;split<;>omega
theorem sumS_big:∀(l:List Int),(∀x∈l,0≤x)→1001∈l→sumS l=1001:=by
  have key:∀(l:List Int) (a:Int),0≤a→a≤1001→(∀x∈l,0≤x)→(a=1001∨1001∈l)→l.foldl (fun n x=>cut1001 (n+x)) a=1001:=by
    intro l
    induction l with
    | nil=>intro a _ _ _ h;rcases h with h | h;exact h;cases h
    | cons y r ih =>
      intro a h0 h1 hl h
      rw[List.foldl_cons]
      have hy:=hl y (by simp)
      refine ih _ (cut1001_ge _ (by omega)) (cut1001_le _) (fun x hx=>hl x (List.mem_cons_of_mem _ hx)) ?_
      rcases h with h | h
      · left;unfold cut1001;split<;>omega
      · rcases List.mem_cons.1 h with e | h
        · left;unfold cut1001;split<;>omega
        · exact Or.inr h
  intro l hl h
  exact key l 0 (by omega) (by omega) hl (Or.inr h)
theorem maxl_mem (l:List Int):maxl l=0∨maxl l∈l:=by
  have key:∀(l:List Int) (a:Int),l.foldl max a=a∨l.foldl max a∈l:=by
    intro l
    induction l with
    | nil=>intro a;exact Or.inl rfl
    | cons y r ih =>
      intro a
      rw[List.foldl_cons]
      rcases ih (max a y) with h | h
      · rw[h]
        by_cases q:y≤a
        · exact Or.inl (by omega)
        · exact Or.inr (by rw[show max a y=y by omega];simp)
      · exact Or.inr (List.mem_cons_of_mem _ h)
  exact key l 0
theorem maxl_all (l:List Int) (x:Int) (hx:x∈l):x≤maxl l:=by
  have:∀(l:List Int) (a x:Int),(x∈l∨x≤a)→x≤l.foldl max a:=by
    intro l
    induction l with
    | nil=>intro a x h;rcases h with h | h;cases h;exact h
    | cons y r ih =>
      intro a x h
      rw[List.foldl_cons]
      refine ih _ _ ?_
      rcases h with h | h
      · rcases List.mem_cons.1 h with rfl | h
        · exact Or.inr (by omega)
        · exact Or.inl h
      · exact Or.inr (by omega)
  exact this l 0 x (Or.inl hx)
theorem often_times (kind lo hi s:Int) (h0:0≤s):cut1001 (1+s*oftenS kind lo hi s)=cut1001 ((if kind=7 then s*timesS lo hi else s)+1):=by
  by_cases h7:kind=7
  · rw[if_pos h7]
    by_cases hs:0<s
    · have e:oftenS kind lo hi s=cut1001 (maxT lo hi):=by unfold oftenS;rw[if_pos ⟨h7,hs⟩]
      rw[e]
      have hm:=maxT_ge lo hi
      by_cases q:maxT lo hi≤1001
      · have e2:timesS lo hi=maxT lo hi:=by unfold timesS timesLo cut2000;unfold maxT at q ⊢;(repeat' split)<;>(repeat' split at q)<;>omega
        rw[e2,cut1001_no (x:=maxT lo hi) (by omega),Int.add_comm]
      · have e2:1002≤timesS lo hi:=by unfold timesS timesLo cut2000;unfold maxT at q;(repeat' split at q)<;>(repeat' split)<;>omega
        rw[cut1001_yes (by omega:1001<maxT lo hi)]
        have a1:1002≤s*timesS lo hi:=by
          have:=Int.mul_le_mul (show (1:Int)≤s by omega) e2 (by omega) (by omega)
          omega
        rw[cut1001_yes (by omega),cut1001_yes (by omega)]
    · have:s=0:=by omega
      subst this
      rw[Int.zero_mul,Int.zero_mul];rfl
  · rw[if_neg h7]
    have e:oftenS kind lo hi s=1:=by unfold oftenS;rw[if_neg (fun q=>h7 q.1)]
    rw[e,Int.mul_one,Int.add_comm]
theorem sizeF_is:∀(k:Nat) (L:Int) (t:Tr),L≤41→sizeF k L t=if 41-L<deepS k (41-L) t then 1001 else sizeS k t
  | 0,L,t,h=>by
    show (0:Int)=if 41-L<0 then 1001 else 0
    rw[if_neg (by omega)]
  | k+1,L,t,h=>by
    show (if 40<L then 1001 else _)=if 41-L<(if 41-L<1 then 1 else 1+maxl (t.parts.map (deepS k (41-L-1)))) then 1001 else _
    by_cases hL:40<L
    · rw[if_pos hL,if_pos (by rw[if_pos (by omega)];omega)]
    · rw[if_neg hL,if_neg (show ¬41-L<1 by omega)]
      have ih:∀p,sizeF k (L+1) p=if 41-L-1<deepS k (41-L-1) p then 1001 else sizeS k p:=fun p=>by
        have:=sizeF_is k (L+1) p (by omega)
        rwa [show 41-(L+1)=41-L-1 by omega] at this
      by_cases hd:41-L<1+maxl (t.parts.map (deepS k (41-L-1)))
      · rw[if_pos hd]
        rcases maxl_mem (t.parts.map (deepS k (41-L-1))) with hz | hm
        · omega
        · rw[List.mem_map] at hm
          obtain ⟨p,hp,he⟩:=hm
          have hb:sumS (t.parts.map (sizeF k (L+1)))=1001:=sumS_big _ (by
            intro x hx
            rw[List.mem_map] at hx
            obtain ⟨p,_,rfl⟩:=hx
            exact sizeF_ge k _ p) (List.mem_map.2 ⟨p,hp,by rw[ih p,if_pos (by omega)]⟩)
          rw[hb]
          obtain ⟨o,ho⟩:∃o,oftenS t.kind t.lo t.hi 1001=o:=⟨_,rfl⟩
          have:=often_ge t.kind t.lo t.hi 1001
          rw[ho] at this ⊢
          unfold cut1001;split<;>omega
      · rw[if_neg hd]
        have e:t.parts.map (sizeF k (L+1))=t.parts.map (sizeS k):=List.map_congr_left fun p hp=>by
          have:=maxl_all (t.parts.map (deepS k (41-L-1))) _ (List.mem_map.2 ⟨p,hp,rfl⟩)
          rw[ih p,if_neg (by omega)]
        rw[e,often_times _ _ _ _ (sumS_ge _ (by
          intro x hx
          rw[List.mem_map] at hx
          obtain ⟨p,_,rfl⟩:=hx
          exact sizeS_ge k p))]
        rfl
theorem sizeF_top (k:Nat) (t:Tr):(decide (sizeF k 1 t≤1000)&&formedS k t)=(decide (deepS k 40 t<41)&&(formedS k t&&decide (sizeS k t<1001))):=by
  have h:=sizeF_is k 1 t (by omega)
  rw[show (41:Int)-1=40 by omega] at h
  rw[h]
  by_cases hd:40<deepS k 40 t
  · rw[if_pos hd,decide_eq_false (by omega),decide_eq_false (show ¬deepS k 40 t<41 by omega)];rfl
  · rw[if_neg hd,decide_eq_true (show deepS k 40 t<41 by omega),Bool.true_and,Bool.and_comm]
    congr 1
    exact decide_eq_decide.2 (by omega)
end Go.Proofs.YtgmpfnfomgadeaaGreat

/- What is claimed of the reference's formed, at patterns of so many levels. -/
namespace Go.Proofs.YtgmpfnfomgadeaaGreat
open Go.RowKit
def FormedAt (k:Nat):Prop:=∀(t:Tr) (w:World),Tr.In w k t→Calls Tryz.prog 19 #[.agg t.cs.toArray] w fun e w'=>e=.returned (.bool (formedS k t))∧Below w.heap.size w w'
end Go.Proofs.YtgmpfnfomgadeaaGreat

/- What the reference's formed answers. -/
set_option linter.unusedSimpArgs false
set_option linter.unusedVariables false
set_option maxHeartbeats 8000000
set_option maxRecDepth 100000
namespace Go.Proofs.YtgmpfnfomgadeaaGreat
open Go.RowKit
theorem formed_A (k:Nat) (ih:FormedAt k) (t:Tr) (w:World) (h:Tr.In w (k+1) t) (hk:t.kind=0∨t.kind=1∨t.kind=10∨t.kind=11) :
    Calls Tryz.prog 19 #[.agg t.cs.toArray] w fun e w'=>e=.returned (.bool (formedS (k+1) t))∧Below w.heap.size w w':=by
  have hlenz:t.parts.length≤9223372036854775807:=by have:=h.2.1;omega
  have hn:=h.2.1.1
  have HN:=Lib.hid hn
  have HI:=Lib.hid h
  have HIH:=Lib.hid ih
  clear h ih
  have HA0:=Lib.hid (At.new w 27 t.cs.toArray)
  obtain ⟨c0,c5,c6,c7,c8⟩:=At.tr_cell HA0.out
  obtain ⟨s1,s2,s3,s4⟩:=At.tr_set HA0.out
  have hcnt:cntF t=0:=cnt_none (by omega) (by omega)
  have k2:=(int_ne (show ¬t.kind=2 by omega)).1
  have k2x:=(int_ne (show ¬t.kind=2 by omega)).2
  have k3:=(int_ne (show ¬t.kind=3 by omega)).1
  have k3x:=(int_ne (show ¬t.kind=3 by omega)).2
  have k4:=(int_ne (show ¬t.kind=4 by omega)).1
  have k4x:=(int_ne (show ¬t.kind=4 by omega)).2
  have k5:=(int_ne (show ¬t.kind=5 by omega)).1
  have k5x:=(int_ne (show ¬t.kind=5 by omega)).2
  have k6:=(int_ne (show ¬t.kind=6 by omega)).1
  have k6x:=(int_ne (show ¬t.kind=6 by omega)).2
  have k7:=(int_ne (show ¬t.kind=7 by omega)).1
  have k7x:=(int_ne (show ¬t.kind=7 by omega)).2
  have k8:=(int_ne (show ¬t.kind=8 by omega)).1
  have k8x:=(int_ne (show ¬t.kind=8 by omega)).2
  have k9:=(int_ne (show ¬t.kind=9 by omega)).1
  have k9x:=(int_ne (show ¬t.kind=9 by omega)).2
  have kl:=dec_f (show ¬t.kind<0 by omega)
  have kh:=dec_f (show ¬11<t.kind by omega)
  go_enter Tryz.func19,Tryz.ntmps19
  by_cases hlen:(t.parts.length:Int)=0
  · have dlen:=(int_eq hlen).1
    have dlenx:=(int_eq hlen).2
    by_cases hset:t.set.eqb St.nil=true
    · have ds:∀W,(Op.equalIn 10000 24 (.agg #[.int .u64 t.set.w0,.int .u64 t.set.w1,.int .u64 t.set.w2,.int .u64 t.set.w3]) (.agg #[.int .u64 0,.int .u64 0,.int .u64 0,.int .u64 0])).run Tryz.prog W=.ok true W:=fun W=>setEq W t.set St.nil true hset
      by_cases hneg:t.neg=false
      · rw[hneg] at c8
        by_cases hlo:t.lo=0
        · have dlo:=(int_eq hlo).1
          have dlox:=(int_eq hlo).2
          by_cases hhi:t.hi=0
          · have dhi:=(int_eq hhi).1
            have dhix:=(int_eq hhi).2
            have HO:=Lib.hid (ownF_yes (t:=t) (by omega) (by rw[hcnt];exact hlen) (.inr hset) (.inr (.inr hneg)) (.inr ⟨hlo,hhi⟩) (fun h=>absurd h (by omega)))
            clear hk
            go_wp2_with fail
            clear c0 c5 c6 c7 c8 s1 s2 s3 s4
            go_loopw [108] (fun i wr=>∃j:Nat,j≤t.parts.length∧i=.int .i64 j∧Hid (formedTo k t j=true)∧Hid (At wr w.heap.size 27 t.cs.toArray)∧Hid (Below w.heap.size w wr)) (fun i _=>t.parts.length-(intOf i).toNat)
            case atStart=>exact ⟨0,Nat.zero_le _,rfl,Lib.hid (formedTo_zero _),HA0,Lib.hid ((Below.refl _ _).alloc (Nat.le_refl _) _)⟩
            case round =>
              obtain ⟨j,hj,rfl,hT,hA,hB⟩:=hrel
              by_cases hlt:j<t.parts.length
              · exact absurd hlt (by omega)
              · obtain rfl:j=t.parts.length:=by omega
                go_wp2_with fail
                go_ret
                exact ⟨ret_bool (formedS_yes HO.out hT.out).symm,hB.out⟩
          · have dhi:=(int_ne hhi).1
            have dhix:=(int_ne hhi).2
            have HF:=Lib.hid (formedS_own (k:=k) (ownF_hi (by omega) hhi))
            clear hk
            go_wp2_with fail
            go_ret
            exact ⟨ret_bool HF.out.symm,(Below.refl _ _).alloc (Nat.le_refl _) _⟩
        · have dlo:=(int_ne hlo).1
          have dlox:=(int_ne hlo).2
          have HF:=Lib.hid (formedS_own (k:=k) (ownF_lo (by omega) hlo))
          clear hk
          go_wp2_with fail
          go_ret
          exact ⟨ret_bool HF.out.symm,(Below.refl _ _).alloc (Nat.le_refl _) _⟩
      · have hnegt:t.neg=true:=by simpa using hneg
        rw[hnegt] at c8
        have HF:=Lib.hid (formedS_own (k:=k) (ownF_neg (by omega) (by omega) hnegt))
        clear hk
        go_wp2_with fail
        go_ret
        exact ⟨ret_bool HF.out.symm,(Below.refl _ _).alloc (Nat.le_refl _) _⟩
    · have hsetf:t.set.eqb St.nil=false:=by simpa using hset
      have ds:∀W,(Op.equalIn 10000 24 (.agg #[.int .u64 t.set.w0,.int .u64 t.set.w1,.int .u64 t.set.w2,.int .u64 t.set.w3]) (.agg #[.int .u64 0,.int .u64 0,.int .u64 0,.int .u64 0])).run Tryz.prog W=.ok false W:=fun W=>setEq W t.set St.nil false hsetf
      have HF:=Lib.hid (formedS_own (k:=k) (ownF_set (by omega) hsetf))
      clear hk
      go_wp2_with fail
      go_ret
      exact ⟨ret_bool HF.out.symm,(Below.refl _ _).alloc (Nat.le_refl _) _⟩
  · have dlen:=(int_ne hlen).1
    have dlenx:=(int_ne hlen).2
    have HF:=Lib.hid (formedS_own (k:=k) (ownF_len (by rw[hcnt];exact hlen)))
    clear hk
    go_wp2_with fail
    go_ret
    exact ⟨ret_bool HF.out.symm,(Below.refl _ _).alloc (Nat.le_refl _) _⟩
theorem formed_2 (k:Nat) (ih:FormedAt k) (t:Tr) (w:World) (h:Tr.In w (k+1) t) (hk:t.kind=2) :
    Calls Tryz.prog 19 #[.agg t.cs.toArray] w fun e w'=>e=.returned (.bool (formedS (k+1) t))∧Below w.heap.size w w':=by
  have hlenz:t.parts.length≤9223372036854775807:=by have:=h.2.1;omega
  have hn:=h.2.1.1
  have HN:=Lib.hid hn
  have HI:=Lib.hid h
  have HIH:=Lib.hid ih
  clear h ih
  have HA0:=Lib.hid (At.new w 27 t.cs.toArray)
  obtain ⟨c0,c5,c6,c7,c8⟩:=At.tr_cell HA0.out
  obtain ⟨s1,s2,s3,s4⟩:=At.tr_set HA0.out
  have hcnt:cntF t=0:=cnt_none (by omega) (by omega)
  rw[hk] at c0
  go_enter Tryz.func19,Tryz.ntmps19
  by_cases hlen:(t.parts.length:Int)=0
  · have dlen:=(int_eq hlen).1
    have dlenx:=(int_eq hlen).2
    by_cases hneg:t.neg=false
    · rw[hneg] at c8
      by_cases hlo:t.lo=0
      · have dlo:=(int_eq hlo).1
        have dlox:=(int_eq hlo).2
        by_cases hhi:t.hi=0
        · have dhi:=(int_eq hhi).1
          have dhix:=(int_eq hhi).2
          have HO:=Lib.hid (ownF_yes (t:=t) (by omega) (by rw[hcnt];exact hlen) (.inl hk) (.inr (.inr hneg)) (.inr ⟨hlo,hhi⟩) (fun h=>absurd h (by omega)))
          clear hk
          go_wp2_with fail
          clear c0 c5 c6 c7 c8 s1 s2 s3 s4
          go_loopw [108] (fun i wr=>∃j:Nat,j≤t.parts.length∧i=.int .i64 j∧Hid (formedTo k t j=true)∧Hid (At wr w.heap.size 27 t.cs.toArray)∧Hid (Below w.heap.size w wr)) (fun i _=>t.parts.length-(intOf i).toNat)
          case atStart=>exact ⟨0,Nat.zero_le _,rfl,Lib.hid (formedTo_zero _),HA0,Lib.hid ((Below.refl _ _).alloc (Nat.le_refl _) _)⟩
          case round =>
            obtain ⟨j,hj,rfl,hT,hA,hB⟩:=hrel
            by_cases hlt:j<t.parts.length
            · exact absurd hlt (by omega)
            · obtain rfl:j=t.parts.length:=by omega
              go_wp2_with fail
              go_ret
              exact ⟨ret_bool (formedS_yes HO.out hT.out).symm,hB.out⟩
        · have dhi:=(int_ne hhi).1
          have dhix:=(int_ne hhi).2
          have HF:=Lib.hid (formedS_own (k:=k) (ownF_hi (by omega) hhi))
          clear hk
          go_wp2_with fail
          go_ret
          exact ⟨ret_bool HF.out.symm,(Below.refl _ _).alloc (Nat.le_refl _) _⟩
      · have dlo:=(int_ne hlo).1
        have dlox:=(int_ne hlo).2
        have HF:=Lib.hid (formedS_own (k:=k) (ownF_lo (by omega) hlo))
        clear hk
        go_wp2_with fail
        go_ret
        exact ⟨ret_bool HF.out.symm,(Below.refl _ _).alloc (Nat.le_refl _) _⟩
    · have hnegt:t.neg=true:=by simpa using hneg
      rw[hnegt] at c8
      have HF:=Lib.hid (formedS_own (k:=k) (ownF_neg (by omega) (by omega) hnegt))
      clear hk
      go_wp2_with fail
      go_ret
      exact ⟨ret_bool HF.out.symm,(Below.refl _ _).alloc (Nat.le_refl _) _⟩
  · have dlen:=(int_ne hlen).1
    have dlenx:=(int_ne hlen).2
    have HF:=Lib.hid (formedS_own (k:=k) (ownF_len (by rw[hcnt];exact hlen)))
    clear hk
    go_wp2_with fail
    go_ret
    exact ⟨ret_bool HF.out.symm,(Below.refl _ _).alloc (Nat.le_refl _) _⟩
end Go.Proofs.YtgmpfnfomgadeaaGreat

/- What the reference's formed answers. -/
set_option linter.unusedSimpArgs false
set_option linter.unusedVariables false
set_option maxHeartbeats 8000000
set_option maxRecDepth 100000
namespace Go.Proofs.YtgmpfnfomgadeaaGreat
open Go.RowKit
theorem formed_3 (k:Nat) (ih:FormedAt k) (t:Tr) (w:World) (h:Tr.In w (k+1) t) (hk:t.kind=3) :
    Calls Tryz.prog 19 #[.agg t.cs.toArray] w fun e w'=>e=.returned (.bool (formedS (k+1) t))∧Below w.heap.size w w':=by
  have hlenz:t.parts.length≤9223372036854775807:=by have:=h.2.1;omega
  have hn:=h.2.1.1
  have HN:=Lib.hid hn
  have HI:=Lib.hid h
  have HIH:=Lib.hid ih
  clear h ih
  have HA0:=Lib.hid (At.new w 27 t.cs.toArray)
  obtain ⟨c0,c5,c6,c7,c8⟩:=At.tr_cell HA0.out
  obtain ⟨s1,s2,s3,s4⟩:=At.tr_set HA0.out
  have hcnt:cntF t=(t.parts.length:Nat):=cnt_all (by omega)
  rw[hk] at c0
  go_enter Tryz.func19,Tryz.ntmps19
  by_cases hset:t.set.eqb St.nil=true
  · have ds:∀W,(Op.equalIn 10000 24 (.agg #[.int .u64 t.set.w0,.int .u64 t.set.w1,.int .u64 t.set.w2,.int .u64 t.set.w3]) (.agg #[.int .u64 0,.int .u64 0,.int .u64 0,.int .u64 0])).run Tryz.prog W=.ok true W:=fun W=>setEq W t.set St.nil true hset
    by_cases hneg:t.neg=false
    · rw[hneg] at c8
      by_cases hlo:t.lo=0
      · have dlo:=(int_eq hlo).1
        have dlox:=(int_eq hlo).2
        by_cases hhi:t.hi=0
        · have dhi:=(int_eq hhi).1
          have dhix:=(int_eq hhi).2
          have HO:=Lib.hid (ownF_yes (t:=t) (by omega) (by rw[hcnt]) (.inr hset) (.inr (.inr hneg)) (.inr ⟨hlo,hhi⟩) (fun h=>absurd h (by omega)))
          clear hk
          go_wp2_with fail
          clear c0 c5 c6 c7 c8 s1 s2 s3 s4
          go_loopw [108] (fun i wr=>∃j:Nat,j≤t.parts.length∧i=.int .i64 j∧Hid (formedTo k t j=true)∧Hid (At wr w.heap.size 27 t.cs.toArray)∧Hid (Below w.heap.size w wr)) (fun i _=>t.parts.length-(intOf i).toNat)
          case atStart=>exact ⟨0,Nat.zero_le _,rfl,Lib.hid (formedTo_zero _),HA0,Lib.hid ((Below.refl _ _).alloc (Nat.le_refl _) _)⟩
          case round =>
            obtain ⟨j,hj,rfl,hT,hA,hB⟩:=hrel
            by_cases hlt:j<t.parts.length
            · have hcell:=(At.tr_cell hA.out).2.1
              obtain ⟨b,off,ha,hb,hr⟩:=HI.out.2.2.1 (by rw[HN.out];omega)
              have HR:=Lib.hid (range_below (hr j hlt) hb (Nat.le_refl _) hB.out)
              have HP:=Lib.hid (Tr.In.next (HI.out.2.2.2 j hlt) hB.out)
              clear hr hb
              rw[ha] at hcell
              clear ha
              have hjz:(0:Int)≤(j:Int):=by omega
              have hjn:(j:Int)<(t.parts.length:Int):=by omega
              obtain ⟨v,hv⟩:∃v:Bool,formedS k t.parts[j]=v:=⟨_,rfl⟩
              have HV:=Lib.hid hv
              clear hv
              go_wp2_with (refine wpList_load_mid rfl 27 _ rfl b (off+j*9) rfl t.parts[j].cs _ HR.out Tryz.underlying27 rfl (by rw[Tr.cs_length];kernel_rfl) ?_)
              refine (HIH.out t.parts[j] _ HP.out).mono ?_
              rintro e w3 ⟨rfl,hb3⟩
              rw[HV.out]
              have HA:=Lib.hid (hA.out.step hb3 rfl)
              have HB:=Lib.hid (below_step hB.out hb3 rfl rfl rfl rfl)
              clear hb3 hcell
              cases v
              · go_wp2_with fail
                go_ret
                exact ⟨ret_bool (formedS_not hlt HV.out).symm,HB.out⟩
              · go_wp2_with fail
                exact ⟨⟨j+1,by omega,by go_num,Lib.hid (formedTo_succ hlt hT.out HV.out),HA,HB⟩,by simp[intOf];omega⟩
            · obtain rfl:j=t.parts.length:=by omega
              go_wp2_with fail
              go_ret
              exact ⟨ret_bool (formedS_yes HO.out hT.out).symm,hB.out⟩
        · have dhi:=(int_ne hhi).1
          have dhix:=(int_ne hhi).2
          have HF:=Lib.hid (formedS_own (k:=k) (ownF_hi (by omega) hhi))
          clear hk
          go_wp2_with fail
          go_ret
          exact ⟨ret_bool HF.out.symm,(Below.refl _ _).alloc (Nat.le_refl _) _⟩
      · have dlo:=(int_ne hlo).1
        have dlox:=(int_ne hlo).2
        have HF:=Lib.hid (formedS_own (k:=k) (ownF_lo (by omega) hlo))
        clear hk
        go_wp2_with fail
        go_ret
        exact ⟨ret_bool HF.out.symm,(Below.refl _ _).alloc (Nat.le_refl _) _⟩
    · have hnegt:t.neg=true:=by simpa using hneg
      rw[hnegt] at c8
      have HF:=Lib.hid (formedS_own (k:=k) (ownF_neg (by omega) (by omega) hnegt))
      clear hk
      go_wp2_with fail
      go_ret
      exact ⟨ret_bool HF.out.symm,(Below.refl _ _).alloc (Nat.le_refl _) _⟩
  · have hsetf:t.set.eqb St.nil=false:=by simpa using hset
    have ds:∀W,(Op.equalIn 10000 24 (.agg #[.int .u64 t.set.w0,.int .u64 t.set.w1,.int .u64 t.set.w2,.int .u64 t.set.w3]) (.agg #[.int .u64 0,.int .u64 0,.int .u64 0,.int .u64 0])).run Tryz.prog W=.ok false W:=fun W=>setEq W t.set St.nil false hsetf
    have HF:=Lib.hid (formedS_own (k:=k) (ownF_set (by omega) hsetf))
    clear hk
    go_wp2_with fail
    go_ret
    exact ⟨ret_bool HF.out.symm,(Below.refl _ _).alloc (Nat.le_refl _) _⟩
theorem formed_4 (k:Nat) (ih:FormedAt k) (t:Tr) (w:World) (h:Tr.In w (k+1) t) (hk:t.kind=4) :
    Calls Tryz.prog 19 #[.agg t.cs.toArray] w fun e w'=>e=.returned (.bool (formedS (k+1) t))∧Below w.heap.size w w':=by
  have hlenz:t.parts.length≤9223372036854775807:=by have:=h.2.1;omega
  have hn:=h.2.1.1
  have HN:=Lib.hid hn
  have HI:=Lib.hid h
  have HIH:=Lib.hid ih
  clear h ih
  have HA0:=Lib.hid (At.new w 27 t.cs.toArray)
  obtain ⟨c0,c5,c6,c7,c8⟩:=At.tr_cell HA0.out
  obtain ⟨s1,s2,s3,s4⟩:=At.tr_set HA0.out
  have hcnt:cntF t=(t.parts.length:Nat):=cnt_all (by omega)
  rw[hk] at c0
  go_enter Tryz.func19,Tryz.ntmps19
  by_cases hset:t.set.eqb St.nil=true
  · have ds:∀W,(Op.equalIn 10000 24 (.agg #[.int .u64 t.set.w0,.int .u64 t.set.w1,.int .u64 t.set.w2,.int .u64 t.set.w3]) (.agg #[.int .u64 0,.int .u64 0,.int .u64 0,.int .u64 0])).run Tryz.prog W=.ok true W:=fun W=>setEq W t.set St.nil true hset
    by_cases hneg:t.neg=false
    · rw[hneg] at c8
      by_cases hlo:t.lo=0
      · have dlo:=(int_eq hlo).1
        have dlox:=(int_eq hlo).2
        by_cases hhi:t.hi=0
        · have dhi:=(int_eq hhi).1
          have dhix:=(int_eq hhi).2
          have HO:=Lib.hid (ownF_yes (t:=t) (by omega) (by rw[hcnt]) (.inr hset) (.inr (.inr hneg)) (.inr ⟨hlo,hhi⟩) (fun h=>absurd h (by omega)))
          clear hk
          go_wp2_with fail
          clear c0 c5 c6 c7 c8 s1 s2 s3 s4
          go_loopw [108] (fun i wr=>∃j:Nat,j≤t.parts.length∧i=.int .i64 j∧Hid (formedTo k t j=true)∧Hid (At wr w.heap.size 27 t.cs.toArray)∧Hid (Below w.heap.size w wr)) (fun i _=>t.parts.length-(intOf i).toNat)
          case atStart=>exact ⟨0,Nat.zero_le _,rfl,Lib.hid (formedTo_zero _),HA0,Lib.hid ((Below.refl _ _).alloc (Nat.le_refl _) _)⟩
          case round =>
            obtain ⟨j,hj,rfl,hT,hA,hB⟩:=hrel
            by_cases hlt:j<t.parts.length
            · have hcell:=(At.tr_cell hA.out).2.1
              obtain ⟨b,off,ha,hb,hr⟩:=HI.out.2.2.1 (by rw[HN.out];omega)
              have HR:=Lib.hid (range_below (hr j hlt) hb (Nat.le_refl _) hB.out)
              have HP:=Lib.hid (Tr.In.next (HI.out.2.2.2 j hlt) hB.out)
              clear hr hb
              rw[ha] at hcell
              clear ha
              have hjz:(0:Int)≤(j:Int):=by omega
              have hjn:(j:Int)<(t.parts.length:Int):=by omega
              obtain ⟨v,hv⟩:∃v:Bool,formedS k t.parts[j]=v:=⟨_,rfl⟩
              have HV:=Lib.hid hv
              clear hv
              go_wp2_with (refine wpList_load_mid rfl 27 _ rfl b (off+j*9) rfl t.parts[j].cs _ HR.out Tryz.underlying27 rfl (by rw[Tr.cs_length];kernel_rfl) ?_)
              refine (HIH.out t.parts[j] _ HP.out).mono ?_
              rintro e w3 ⟨rfl,hb3⟩
              rw[HV.out]
              have HA:=Lib.hid (hA.out.step hb3 rfl)
              have HB:=Lib.hid (below_step hB.out hb3 rfl rfl rfl rfl)
              clear hb3 hcell
              cases v
              · go_wp2_with fail
                go_ret
                exact ⟨ret_bool (formedS_not hlt HV.out).symm,HB.out⟩
              · go_wp2_with fail
                exact ⟨⟨j+1,by omega,by go_num,Lib.hid (formedTo_succ hlt hT.out HV.out),HA,HB⟩,by simp[intOf];omega⟩
            · obtain rfl:j=t.parts.length:=by omega
              go_wp2_with fail
              go_ret
              exact ⟨ret_bool (formedS_yes HO.out hT.out).symm,hB.out⟩
        · have dhi:=(int_ne hhi).1
          have dhix:=(int_ne hhi).2
          have HF:=Lib.hid (formedS_own (k:=k) (ownF_hi (by omega) hhi))
          clear hk
          go_wp2_with fail
          go_ret
          exact ⟨ret_bool HF.out.symm,(Below.refl _ _).alloc (Nat.le_refl _) _⟩
      · have dlo:=(int_ne hlo).1
        have dlox:=(int_ne hlo).2
        have HF:=Lib.hid (formedS_own (k:=k) (ownF_lo (by omega) hlo))
        clear hk
        go_wp2_with fail
        go_ret
        exact ⟨ret_bool HF.out.symm,(Below.refl _ _).alloc (Nat.le_refl _) _⟩
    · have hnegt:t.neg=true:=by simpa using hneg
      rw[hnegt] at c8
      have HF:=Lib.hid (formedS_own (k:=k) (ownF_neg (by omega) (by omega) hnegt))
      clear hk
      go_wp2_with fail
      go_ret
      exact ⟨ret_bool HF.out.symm,(Below.refl _ _).alloc (Nat.le_refl _) _⟩
  · have hsetf:t.set.eqb St.nil=false:=by simpa using hset
    have ds:∀W,(Op.equalIn 10000 24 (.agg #[.int .u64 t.set.w0,.int .u64 t.set.w1,.int .u64 t.set.w2,.int .u64 t.set.w3]) (.agg #[.int .u64 0,.int .u64 0,.int .u64 0,.int .u64 0])).run Tryz.prog W=.ok false W:=fun W=>setEq W t.set St.nil false hsetf
    have HF:=Lib.hid (formedS_own (k:=k) (ownF_set (by omega) hsetf))
    clear hk
    go_wp2_with fail
    go_ret
    exact ⟨ret_bool HF.out.symm,(Below.refl _ _).alloc (Nat.le_refl _) _⟩
theorem formed_5 (k:Nat) (ih:FormedAt k) (t:Tr) (w:World) (h:Tr.In w (k+1) t) (hk:t.kind=5) :
    Calls Tryz.prog 19 #[.agg t.cs.toArray] w fun e w'=>e=.returned (.bool (formedS (k+1) t))∧Below w.heap.size w w':=by
  have hlenz:t.parts.length≤9223372036854775807:=by have:=h.2.1;omega
  have hn:=h.2.1.1
  have HN:=Lib.hid hn
  have HI:=Lib.hid h
  have HIH:=Lib.hid ih
  clear h ih
  have HA0:=Lib.hid (At.new w 27 t.cs.toArray)
  obtain ⟨c0,c5,c6,c7,c8⟩:=At.tr_cell HA0.out
  obtain ⟨s1,s2,s3,s4⟩:=At.tr_set HA0.out
  have hcnt:cntF t=(t.parts.length:Nat):=cnt_all (by omega)
  rw[hk] at c0
  go_enter Tryz.func19,Tryz.ntmps19
  by_cases hset:t.set.eqb St.nil=true
  · have ds:∀W,(Op.equalIn 10000 24 (.agg #[.int .u64 t.set.w0,.int .u64 t.set.w1,.int .u64 t.set.w2,.int .u64 t.set.w3]) (.agg #[.int .u64 0,.int .u64 0,.int .u64 0,.int .u64 0])).run Tryz.prog W=.ok true W:=fun W=>setEq W t.set St.nil true hset
    by_cases hneg:t.neg=false
    · rw[hneg] at c8
      by_cases hlo:t.lo=0
      · have dlo:=(int_eq hlo).1
        have dlox:=(int_eq hlo).2
        by_cases hhi:t.hi=0
        · have dhi:=(int_eq hhi).1
          have dhix:=(int_eq hhi).2
          have HO:=Lib.hid (ownF_yes (t:=t) (by omega) (by rw[hcnt]) (.inr hset) (.inr (.inr hneg)) (.inr ⟨hlo,hhi⟩) (fun h=>absurd h (by omega)))
          clear hk
          go_wp2_with fail
          clear c0 c5 c6 c7 c8 s1 s2 s3 s4
          go_loopw [108] (fun i wr=>∃j:Nat,j≤t.parts.length∧i=.int .i64 j∧Hid (formedTo k t j=true)∧Hid (At wr w.heap.size 27 t.cs.toArray)∧Hid (Below w.heap.size w wr)) (fun i _=>t.parts.length-(intOf i).toNat)
          case atStart=>exact ⟨0,Nat.zero_le _,rfl,Lib.hid (formedTo_zero _),HA0,Lib.hid ((Below.refl _ _).alloc (Nat.le_refl _) _)⟩
          case round =>
            obtain ⟨j,hj,rfl,hT,hA,hB⟩:=hrel
            by_cases hlt:j<t.parts.length
            · have hcell:=(At.tr_cell hA.out).2.1
              obtain ⟨b,off,ha,hb,hr⟩:=HI.out.2.2.1 (by rw[HN.out];omega)
              have HR:=Lib.hid (range_below (hr j hlt) hb (Nat.le_refl _) hB.out)
              have HP:=Lib.hid (Tr.In.next (HI.out.2.2.2 j hlt) hB.out)
              clear hr hb
              rw[ha] at hcell
              clear ha
              have hjz:(0:Int)≤(j:Int):=by omega
              have hjn:(j:Int)<(t.parts.length:Int):=by omega
              obtain ⟨v,hv⟩:∃v:Bool,formedS k t.parts[j]=v:=⟨_,rfl⟩
              have HV:=Lib.hid hv
              clear hv
              go_wp2_with (refine wpList_load_mid rfl 27 _ rfl b (off+j*9) rfl t.parts[j].cs _ HR.out Tryz.underlying27 rfl (by rw[Tr.cs_length];kernel_rfl) ?_)
              refine (HIH.out t.parts[j] _ HP.out).mono ?_
              rintro e w3 ⟨rfl,hb3⟩
              rw[HV.out]
              have HA:=Lib.hid (hA.out.step hb3 rfl)
              have HB:=Lib.hid (below_step hB.out hb3 rfl rfl rfl rfl)
              clear hb3 hcell
              cases v
              · go_wp2_with fail
                go_ret
                exact ⟨ret_bool (formedS_not hlt HV.out).symm,HB.out⟩
              · go_wp2_with fail
                exact ⟨⟨j+1,by omega,by go_num,Lib.hid (formedTo_succ hlt hT.out HV.out),HA,HB⟩,by simp[intOf];omega⟩
            · obtain rfl:j=t.parts.length:=by omega
              go_wp2_with fail
              go_ret
              exact ⟨ret_bool (formedS_yes HO.out hT.out).symm,hB.out⟩
        · have dhi:=(int_ne hhi).1
          have dhix:=(int_ne hhi).2
          have HF:=Lib.hid (formedS_own (k:=k) (ownF_hi (by omega) hhi))
          clear hk
          go_wp2_with fail
          go_ret
          exact ⟨ret_bool HF.out.symm,(Below.refl _ _).alloc (Nat.le_refl _) _⟩
      · have dlo:=(int_ne hlo).1
        have dlox:=(int_ne hlo).2
        have HF:=Lib.hid (formedS_own (k:=k) (ownF_lo (by omega) hlo))
        clear hk
        go_wp2_with fail
        go_ret
        exact ⟨ret_bool HF.out.symm,(Below.refl _ _).alloc (Nat.le_refl _) _⟩
    · have hnegt:t.neg=true:=by simpa using hneg
      rw[hnegt] at c8
      have HF:=Lib.hid (formedS_own (k:=k) (ownF_neg (by omega) (by omega) hnegt))
      clear hk
      go_wp2_with fail
      go_ret
      exact ⟨ret_bool HF.out.symm,(Below.refl _ _).alloc (Nat.le_refl _) _⟩
  · have hsetf:t.set.eqb St.nil=false:=by simpa using hset
    have ds:∀W,(Op.equalIn 10000 24 (.agg #[.int .u64 t.set.w0,.int .u64 t.set.w1,.int .u64 t.set.w2,.int .u64 t.set.w3]) (.agg #[.int .u64 0,.int .u64 0,.int .u64 0,.int .u64 0])).run Tryz.prog W=.ok false W:=fun W=>setEq W t.set St.nil false hsetf
    have HF:=Lib.hid (formedS_own (k:=k) (ownF_set (by omega) hsetf))
    clear hk
    go_wp2_with fail
    go_ret
    exact ⟨ret_bool HF.out.symm,(Below.refl _ _).alloc (Nat.le_refl _) _⟩
end Go.Proofs.YtgmpfnfomgadeaaGreat
