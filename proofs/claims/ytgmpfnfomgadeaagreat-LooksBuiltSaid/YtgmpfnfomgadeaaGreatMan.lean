/- Joined: TreeSize, Copied. -/
import Derived.Test.YtgmpfnfomgadeaaGreatProg
import Derived.Test.YtgmpfnfomgadeaaGreatMam
import Derived.Test.YtgmpfnfomgadeaaGreatMai
/- What tree's sizeFrom, Size and Formed answer. -/
set_option linter.unusedSimpArgs false
set_option linter.unusedVariables false
set_option maxHeartbeats 8000000
set_option maxRecDepth 100000
namespace Go.Proofs.YtgmpfnfomgadeaaGreat
open Go.RowKit
def SizeFromAt (k:Nat):Prop:=∀(t:Tr) (L:Int) (w:World),1≤L→L≤41→Tr.In w k t→Calls Tryz.prog 47 #[.agg t.cs.toArray,.int .i64 L] w fun e w'=>e=.returned (.int .i64 (sizeF k L t))∧Below w.heap.size w w'
theorem treeSizeFrom:∀k,SizeFromAt k
  | 0=>fun _ _ _ _ _ h=>h.elim
  | k+1=>fun t L w hL1 hL2 h=>by
    have hlen:t.parts.length≤9223372036854775807:=by have:=h.2.1;omega
    have hn:=h.2.1.1
    have HN:=Lib.hid hn
    have HI:=Lib.hid h
    have HIH:=Lib.hid (treeSizeFrom k)
    have HC:=Lib.hid (At.tr_cell (At.new w 27 t.cs.toArray))
    clear h
    have c5:=HC.out.2.1
    rw[hn] at c5
    clear hn
    go_enter Tryz.func47,Tryz.ntmps47
    by_cases hd:40<L
    · have dd:=dec_t hd
      have HF:=Lib.hid (sizeF_deep k t hd)
      go_wp2_with fail
      go_ret
      exact ⟨ret_int HF.out.symm,(Below.refl _ _).alloc (Nat.le_refl _) _⟩
    · have dd:=dec_f hd
      have HD:=Lib.hid hd
      have hL3:L≤40:=by omega
      go_wp2_with fail
      go_loopw [5,14] (fun x i wr=>∃(j:Nat) (xv:Int),j≤t.parts.length∧i=.int .i64 j∧x=.int .i64 xv∧(0≤xv∧xv≤1000)∧Hid (sizeFTo k (L+1) t j=xv)∧Hid (At wr w.heap.size 27 t.cs.toArray)∧Hid (Below w.heap.size w wr)) (fun _ i _=>t.parts.length-(intOf i).toNat)
      case atStart=>exact ⟨0,0,Nat.zero_le _,rfl,rfl,by omega,Lib.hid (sizeFTo_zero _ _ _),Lib.hid (At.new _ _ _),Lib.hid ((Below.refl _ _).alloc (Nat.le_refl _) _)⟩
      case round =>
        clear c5
        obtain ⟨j,x,hj,rfl,rfl,⟨hx1,hx2⟩,HX,hA,hB⟩:=hrel
        by_cases hlt:j<t.parts.length
        · obtain ⟨b,off,ha,hb,hr⟩:=HI.out.2.2.1 (by rw[HN.out];omega)
          have HR:=Lib.hid (range_below (hr j hlt) hb (Nat.le_refl _) hB.out)
          have HP:=Lib.hid (Tr.In.next (HI.out.2.2.2 j hlt) hB.out)
          have hA2:=boxW_at wr t.parts[j]
          have HP2:=Lib.hid (HP.out.next (boxW_next wr t.parts[j]))
          have hy0:=sizeF_ge k (L+1) t.parts[j]
          have hy1:=sizeF_le k (L+1) t.parts[j]
          obtain ⟨y,hy⟩:∃y:Int,sizeF k (L+1) t.parts[j]=y:=⟨_,rfl⟩
          have HE:Hid (1001≤x+y→sizeF (k+1) L t=1001):=fun q=>sizeF_early k t (show ¬40<L by omega) j hlt (by rw[HX.out,hy];exact q)
          have HSu:Hid (sizeFTo k (L+1) t (j+1)=cut1001 (x+y)):=by have:=sizeFTo_succ k (L+1) t j hlt;rw[HX.out,hy] at this;exact this
          rw[hy] at hy0 hy1
          have HY:=Lib.hid hy
          clear hr hb hy
          rw[ha]
          clear ha
          have hjz:(0:Int)≤(j:Int):=by omega
          have hjn:(j:Int)<(t.parts.length:Int):=by omega
          go_wp2_with (first
            | (refine wpList_load_mid rfl 27 _ rfl b (off+j*9) rfl t.parts[j].cs _ HR.out Tryz.underlying27 rfl (by rw[Tr.cs_length];kernel_rfl) ?_)
            | (refine wpList_store_row rfl 27 _ _ rfl wr.heap.size t.parts[j].cs.toArray rfl rfl 27 Tr.blank.cs.toArray (At.new _ _ _) (by kernel_rfl) rfl (Tr.one _) ?_;change Exit.then _ _ _ _ (boxW wr t.parts[j]))
            | (refine wpList_load_row rfl 27 _ rfl wr.heap.size rfl 27 t.parts[j].cs.toArray (0,0) _ hA2 Tryz.underlying27 rfl (by kernel_rfl) ?_) | fail)
          refine (HIH.out t.parts[j] _ _ (by omega) (by omega) HP2.out).mono ?_
          rintro e w3 ⟨rfl,hb3⟩
          rw[HY.out]
          have HBx:=boxW_below hB.out t.parts[j]
          have HA:=Lib.hid ((hA.out.below (boxW_next wr t.parts[j]) hA.out.lt).below hb3 (by rw[boxW_size];have:=hA.out.lt;omega))
          have HB:=Lib.hid (HBx.trans (hb3.mono HBx.size))
          clear hb3 hA2 HBx
          by_cases hg:1001≤x+y
          · have dg:=dec_t hg
            have HF:=Lib.hid (HE.out hg)
            go_wp2_with fail
            go_ret
            exact ⟨ret_int HF.out.symm,HB.out⟩
          · have dg:=dec_f hg
            have HX2:Hid (sizeFTo k (L+1) t (j+1)=x+y):=by rw[HSu.out,cut1001_no (by omega)];exact rfl
            go_wp2_with fail
            exact ⟨⟨j+1,x+y,by omega,by go_num,rfl,by omega,HX2,HA,HB⟩,by simp[intOf];omega⟩
        · obtain rfl:j=t.parts.length:=by omega
          have hS:=sizeF_end k t (show ¬40<L by omega)
          rw[HX.out] at hS
          obtain ⟨c0,c5,c6,c7,c8⟩:=At.tr_cell hA.out
          obtain ⟨lo,hlo⟩:∃lo:Int,t.lo=lo:=⟨_,rfl⟩
          obtain ⟨hi,hhi⟩:∃hi:Int,t.hi=hi:=⟨_,rfl⟩
          rw[hlo] at c6 hS
          rw[hhi] at c7 hS
          have hd0:=hx1
          have HS:=Lib.hid hS
          clear hlo hhi hS c5 c8
          by_cases h7:t.kind=7
          · have d7:=(int_eq h7).1
            have H7:=Lib.hid h7
            clear h7
            by_cases hx0:0<x
            · have dx:=dec_t hx0
              by_cases h1:hi≤lo
              · have d1:=dec_t h1
                by_cases h2:1≤lo
                · have d2:=dec_t h2
                  by_cases hm:lo≤1001
                  · have hT:oftenS t.kind lo hi x=lo:=by unfold oftenS maxT;rw[if_pos ⟨H7.out,hx0⟩];unfold cut1001;(repeat' split)<;>omega
                    rw[hT] at HS
                    clear hT
                    have hmb:=mul_bounds (x:=x) (T:=lo) hd0 (by omega) (by omega) (by omega)
                    have e1:wrap64 (x*lo)=x*lo:=wrap_same (by unfold I64;omega)
                    have e2:wrap64 (1+x*lo)=1+x*lo:=wrap_same (by unfold I64;omega)
                    have dm:=dec_t hm
                    by_cases hg:1001<1+x*lo
                    · rw[cut1001_yes hg] at HS
                      have hg2:¬1+x*lo≤1001:=by omega
                      have dg:=dec_f hg2
                      go_wp2_with fail
                      go_ret
                      exact ⟨ret_int HS.out,hB.out⟩
                    · rw[cut1001_no hg] at HS
                      have hg2:1+x*lo≤1001:=by omega
                      have dg:=dec_t hg2
                      go_wp2_with fail
                      go_ret
                      exact ⟨ret_int HS.out,hB.out⟩
                  · have hT:oftenS t.kind lo hi x=1001:=by unfold oftenS maxT;rw[if_pos ⟨H7.out,hx0⟩];unfold cut1001;(repeat' split)<;>omega
                    rw[hT] at HS
                    clear hT
                    have hmb:=mul_bounds (x:=x) (T:=1001) hd0 (by omega) (by omega) (by omega)
                    have e1:wrap64 (x*1001)=x*1001:=wrap_same (by unfold I64;omega)
                    have e2:wrap64 (1+x*1001)=1+x*1001:=wrap_same (by unfold I64;omega)
                    have dm:=dec_f hm
                    rw[cut1001_yes (by omega)] at HS
                    have hg2:¬1+x*1001≤1001:=by omega
                    have dg:=dec_f hg2
                    go_wp2_with fail
                    go_ret
                    exact ⟨ret_int HS.out,hB.out⟩
                · have d2:=dec_f h2
                  have hT:oftenS t.kind lo hi x=1:=by unfold oftenS maxT;rw[if_pos ⟨H7.out,hx0⟩];unfold cut1001;(repeat' split)<;>omega
                  rw[hT,Int.mul_one,cut1001_no (by omega)] at HS
                  clear hT
                  have hg:1+x≤1001:=by omega
                  have dg:=dec_t hg
                  go_wp2_with fail
                  go_ret
                  exact ⟨ret_int HS.out,hB.out⟩
              · have d1:=dec_f h1
                by_cases h2:1≤hi
                · have d2:=dec_t h2
                  by_cases hm:hi≤1001
                  · have hT:oftenS t.kind lo hi x=hi:=by unfold oftenS maxT;rw[if_pos ⟨H7.out,hx0⟩];unfold cut1001;(repeat' split)<;>omega
                    rw[hT] at HS
                    clear hT
                    have hmb:=mul_bounds (x:=x) (T:=hi) hd0 (by omega) (by omega) (by omega)
                    have e1:wrap64 (x*hi)=x*hi:=wrap_same (by unfold I64;omega)
                    have e2:wrap64 (1+x*hi)=1+x*hi:=wrap_same (by unfold I64;omega)
                    have dm:=dec_t hm
                    by_cases hg:1001<1+x*hi
                    · rw[cut1001_yes hg] at HS
                      have hg2:¬1+x*hi≤1001:=by omega
                      have dg:=dec_f hg2
                      go_wp2_with fail
                      go_ret
                      exact ⟨ret_int HS.out,hB.out⟩
                    · rw[cut1001_no hg] at HS
                      have hg2:1+x*hi≤1001:=by omega
                      have dg:=dec_t hg2
                      go_wp2_with fail
                      go_ret
                      exact ⟨ret_int HS.out,hB.out⟩
                  · have hT:oftenS t.kind lo hi x=1001:=by unfold oftenS maxT;rw[if_pos ⟨H7.out,hx0⟩];unfold cut1001;(repeat' split)<;>omega
                    rw[hT] at HS
                    clear hT
                    have hmb:=mul_bounds (x:=x) (T:=1001) hd0 (by omega) (by omega) (by omega)
                    have e1:wrap64 (x*1001)=x*1001:=wrap_same (by unfold I64;omega)
                    have e2:wrap64 (1+x*1001)=1+x*1001:=wrap_same (by unfold I64;omega)
                    have dm:=dec_f hm
                    rw[cut1001_yes (by omega)] at HS
                    have hg2:¬1+x*1001≤1001:=by omega
                    have dg:=dec_f hg2
                    go_wp2_with fail
                    go_ret
                    exact ⟨ret_int HS.out,hB.out⟩
                · have d2:=dec_f h2
                  have hT:oftenS t.kind lo hi x=1:=by unfold oftenS maxT;rw[if_pos ⟨H7.out,hx0⟩];unfold cut1001;(repeat' split)<;>omega
                  rw[hT,Int.mul_one,cut1001_no (by omega)] at HS
                  clear hT
                  have hg:1+x≤1001:=by omega
                  have dg:=dec_t hg
                  go_wp2_with fail
                  go_ret
                  exact ⟨ret_int HS.out,hB.out⟩
            · obtain rfl:x=0:=by omega
              have hT:oftenS t.kind lo hi 0=1:=by unfold oftenS;rw[if_neg (fun q=>absurd q.2 (by omega))]
              rw[hT] at HS
              clear hT
              go_wp2_with fail
              go_ret
              exact ⟨ret_int HS.out,hB.out⟩
          · have d7:=(int_ne h7).1
            have hT:oftenS t.kind lo hi x=1:=by unfold oftenS;rw[if_neg (fun q=>h7 q.1)]
            rw[hT,Int.mul_one,cut1001_no (by omega)] at HS
            clear hT h7
            have hg:1+x≤1001:=by omega
            have dg:=dec_t hg
            go_wp2_with fail
            go_ret
            exact ⟨ret_int HS.out,hB.out⟩
theorem treeSize (k:Nat) (t:Tr) (w:World) (h:Tr.In w k t) :
    Calls Tryz.prog 37 #[.agg t.cs.toArray] w fun e w'=>e=.returned (.int .i64 (sizeF k 1 t))∧Below w.heap.size w w':=by
  have HI:=Lib.hid h
  clear h
  have hA:At (w.alloc (Obj.cells t.cs.toArray 27)) w.heap.size 27 t.cs.toArray:=At.new _ _ _
  have hB:Below w.heap.size w (w.alloc (Obj.cells t.cs.toArray 27)):=(Below.refl _ _).alloc (Nat.le_refl _) _
  go_enter Tryz.func37,Tryz.ntmps37
  go_wp2_with (first | (refine wpList_load_row rfl 27 _ rfl w.heap.size rfl 27 t.cs.toArray (0,0) _ hA Tryz.underlying27 rfl (by kernel_rfl) ?_) | fail)
  refine (treeSizeFrom k t 1 _ (by omega) (by omega) (HI.out.next hB)).mono ?_
  rintro e w1 ⟨rfl,hb1⟩
  have HB:=Lib.hid (below_step hB hb1 rfl rfl rfl rfl)
  clear hb1 hA hB
  go_wp2_with fail
  go_ret
  exact ⟨rfl,HB.out⟩
theorem treeFormed (k:Nat) (t:Tr) (w:World) (h:Tr.In w k t) :
    Calls Tryz.prog 20 #[.agg t.cs.toArray] w fun e w'=>e=.returned (.bool (isFormed k t))∧Below w.heap.size w w':=by
  have HI:=Lib.hid h
  clear h
  have hA:At (w.alloc (Obj.cells t.cs.toArray 27)) w.heap.size 27 t.cs.toArray:=At.new _ _ _
  have hB:Below w.heap.size w (w.alloc (Obj.cells t.cs.toArray 27)):=(Below.refl _ _).alloc (Nat.le_refl _) _
  have ht:=sizeF_top k t
  obtain ⟨s,hs⟩:∃s:Int,sizeF k 1 t=s:=⟨_,rfl⟩
  obtain ⟨f,hf⟩:∃f:Bool,formedS k t=f:=⟨_,rfl⟩
  have HR:Hid (isFormed k t=(decide (s≤1000)&&f)):=by unfold isFormed;rw[←ht,hs,hf];exact rfl
  have HS:=Lib.hid hs
  have HF:=Lib.hid hf
  clear hs hf ht
  go_enter Tryz.func20,Tryz.ntmps20
  go_wp2_with (first | (refine wpList_load_row rfl 27 _ rfl w.heap.size rfl 27 t.cs.toArray (0,0) _ hA Tryz.underlying27 rfl (by kernel_rfl) ?_) | fail)
  refine (treeSize k t _ (HI.out.next hB)).mono ?_
  rintro e w1 ⟨rfl,hb1⟩
  rw[HS.out]
  have hA:=hA.step hb1 rfl
  have hB:=below_step hB hb1 rfl rfl rfl rfl
  clear hb1
  by_cases h1:s≤1000
  · have d1:=dec_t h1
    go_wp2_with (first | (refine wpList_load_row_want (by rfl) 27 _ rfl w.heap.size rfl 27 t.cs.toArray (0,0) _ hA Tryz.underlying27 rfl (by kernel_rfl) ?_) | fail)
    refine (treeAllFormed k t _ (HI.out.next hB)).mono ?_
    rintro e w2 ⟨rfl,hb2⟩
    rw[HF.out]
    have HB:=Lib.hid (below_step hB hb2 rfl rfl rfl rfl)
    have HR2:Hid (isFormed k t=f):=by rw[HR.out,d1,Bool.true_and];exact rfl
    clear hb2 hA hB
    cases f
    · go_wp2_with fail
      go_ret
      exact ⟨ret_bool HR2.out.symm,HB.out⟩
    · go_wp2_with fail
      go_ret
      exact ⟨ret_bool HR2.out.symm,HB.out⟩
  · have d1:=dec_f h1
    have HR2:Hid (isFormed k t=false):=by rw[HR.out,d1,Bool.false_and];exact rfl
    go_wp2_with fail
    go_ret
    exact ⟨ret_bool HR2.out.symm,hB⟩
end Go.Proofs.YtgmpfnfomgadeaaGreat

/- tree.copied: a pattern in memory of its own. -/
set_option linter.unusedSimpArgs false
set_option linter.unusedVariables false
set_option maxHeartbeats 4000000
set_option maxRecDepth 100000
namespace Go.Proofs.YtgmpfnfomgadeaaGreat
open Go.RowKit
theorem Tr.Sol.only {g base:Nat} {w w':World} (ho:Only g w w') (hg:g<base):∀(k:Nat) (t:Tr),Tr.From base k t→Tr.Sol w k t→Tr.Sol w' k t
  | 0,_,_,_=>trivial
  | k+1,t,hf,hs=>⟨fun h0 b off e=>by
      have hb:=hf.1 h0 b off e
      rw[World.frozen?_of_block (w:=w) (ho.2.2.2.2 b (by omega))]
      exact hs.1 h0 b off e,fun p hp=>Tr.Sol.only ho hg k p (hf.2 p hp) (hs.2 p hp)⟩
theorem Tr.Ins.only {g base k:Nat} {w w':World} {t:Tr} (h:Tr.Ins w k t) (hf:Tr.From base k t) (ho:Only g w w') (hg:g<base):Tr.Ins w' k t :=
  ⟨h.1.only hf ho hg,Tr.Sol.only ho hg k t hf h.2⟩
def MadeI (S:Nat→Tr→Tr) (k:Nat) (t:Tr) (w:World) (e:Ending) (w':World):Prop:=∃t2:Tr,e=.returned (.agg t2.cs.toArray)∧Tr.Ins w' k t2∧Tr.From w.heap.size k t2∧t2.strip k=S k t∧Below w.heap.size w w'
def MakesI (F:Nat) (S:Nat→Tr→Tr) (k:Nat):Prop:=∀(t:Tr) (w:World),Tr.In w k t→slimS k t→Calls Tryz.prog F #[.agg t.cs.toArray] w (MadeI S k t w)
def RowOfI (S:Nat→Tr→Tr) (w':World) (B k n:Nat) (A:Option Addr) (parts:List Tr) (ps:Nat→Tr):Prop :=
  0<n→∃g,A=some ⟨g,0,none⟩∧B≤g∧g<w'.heap.size∧RowTr w' g n ps∧∀(p:Nat) (h:p<parts.length),Tr.Ins w' k (ps p)∧Tr.From (g+1) k (ps p)∧(ps p).strip k=S k parts[p]
theorem RowOfI.plain {S:Nat→Tr→Tr} {w:World} {B k n:Nat} {A:Option Addr} {parts:List Tr} {ps:Nat→Tr} (h:RowOfI S w B k n A parts ps):RowOf S w B k n A parts ps:=fun h0=>by
  obtain ⟨g,e,hb,hlt,hr,hp⟩:=h h0
  exact ⟨g,e,hb,hlt,hr,fun p hh=>⟨(hp p hh).1.1,(hp p hh).2⟩⟩
def EachPostI (S:Nat→Tr→Tr) (k n:Nat) (parts:List Tr) (w:World) (e:Ending) (w':World):Prop :=
  ∃(A:Option Addr) (c:Nat) (ps:Nat→Tr),e=.returned (.slice A n c)∧(n=0→A=none∧c=0)∧RowOfI S w' w.heap.size k n A parts ps∧Below w.heap.size w w'
theorem RowOfI.only {S:Nat→Tr→Tr} {w w':World} {B k n g0:Nat} {A:Option Addr} {parts:List Tr} {ps:Nat→Tr} (h:RowOfI S w B k n A parts ps) (ho:Only g0 w w') (hg:g0<B):RowOfI S w' B k n A parts ps:=fun h0=>by
  obtain ⟨g,e,hb,hlt,hr,hp⟩:=h h0
  obtain ⟨g',e',hb',hlt',hr',hp'⟩:=h.plain.only ho hg h0
  have:g'=g:=by rw[e] at e';injection e' with e';injection e' with e';exact e'.symm
  subst this
  exact ⟨g',e,hb,hlt',hr',fun p hpp=>⟨(hp p hpp).1.only (hp p hpp).2.1 ho (by omega),(hp p hpp).2⟩⟩
theorem made_inI {S:Nat→Tr→Tr} {w':World} {B k n c:Nat} {A:Option Addr} {parts:List Tr} {ps:Nat→Tr} {kd lo hi:Int} {set:St} {neg:Bool} (hset:set.Ok) (hkd:I64 kd) (hlo:I64 lo) (hhi:I64 hi)
    (hn:n=parts.length) (hn2:n≤2000) (h:RowOfI S w' B k n A parts ps) :
    Tr.Ins w' (k+1) (.node kd set A n c ((List.range n).map ps) lo hi neg)∧Tr.From B (k+1) (.node kd set A n c ((List.range n).map ps) lo hi neg) ∧
      (Tr.node kd set A n c ((List.range n).map ps) lo hi neg).strip (k+1)=.node kd set none n 0 (parts.map (S k)) lo hi neg:=by
  obtain ⟨h1,h2,h3⟩:=made_in (c:=c) (kd:=kd) (lo:=lo) (hi:=hi) (neg:=neg) hset hkd hlo hhi hn hn2 h.plain
  refine ⟨⟨h1,fun h0 b off e=>?_,fun p hp=>?_⟩,h2,h3⟩
  · have h0':0<n:=h0
    obtain ⟨g,e',hb,hlt,hr,hp⟩:=h h0'
    have e2:A=some ⟨b,off,none⟩:=e
    rw[e2] at e'
    injection e' with e'
    injection e' with e1 e3
    subst e1;subst e3
    have:=(hr.there 0 h0' 0 (by omega)).2
    simpa using this
  · have hp':p∈(List.range n).map ps:=hp
    rw[List.mem_map] at hp'
    obtain ⟨j,hj,rfl⟩:=hp'
    have hj':=List.mem_range.1 hj
    obtain ⟨g,e,hb,hlt,hr,hq⟩:=h (by omega)
    exact (hq j (by omega)).1.2
theorem eachNil (S:Nat→Tr→Tr) (k c:Nat) (A:Option Addr) (w:World) :
    Calls Tryz.prog 66 #[.slice A 0 c,.func (.func 50) #[] #[]] w fun e w'=>e=.returned (.slice none 0 0)∧Below w.heap.size w w':=by
  go_enter Tryz.func66,Tryz.ntmps66
  go_wp2_with fail
  go_ret
  exact ⟨rfl,Below.refl _ _⟩
theorem eachSome (S:Nat→Tr→Tr) (k c n b off:Nat) (parts:List Tr) (hF:MakesI 50 S k) (w:World) (hn:n=parts.length) (h0:0<n) (hn2:n≤2000) (hbw:b<w.heap.size)
    (hr:∀(j:Nat) (h:j<parts.length),w.rangeAt b (off+j*9) parts[j].cs) (hin:∀(j:Nat) (h:j<parts.length),Tr.In w k parts[j]) (hsl:∀(j:Nat) (h:j<parts.length),slimS k parts[j]) :
    Calls Tryz.prog 66 #[.slice (some ⟨b,off,none⟩) n c,.func (.func 50) #[] #[]] w (EachPostI S k n parts w):=by
  have HF:=Lib.hid hF
  have HN:=Lib.hid hn
  have HR:=Lib.hid hr
  have HI:=Lib.hid hin
  have HSl:=Lib.hid hsl
  have hm:=make_re n (by omega)
  have hne1:¬(n:Int)=0:=by omega
  have hne:=(int_ne hne1).1
  have H0:Hid (RowTr (w.alloc (.cells (madeCells Tr.blank.cs.toArray (n*9)) 27)) w.heap.size n (fun _=>Tr.blank)):=Lib.hid (made_row w n)
  have HB0:Hid (Below w.heap.size w (w.alloc (.cells (madeCells Tr.blank.cs.toArray (n*9)) 27))):=Lib.hid ((Below.refl _ _).alloc (Nat.le_refl _) _)
  clear hF hn hr hin hsl
  go_enter Tryz.func66,Tryz.ntmps66
  go_wp2_with fail
  clear hm
  generalize hw1:w.alloc (.cells (madeCells Tr.blank.cs.toArray (n*9)) 27)=w1 at H0 HB0 ⊢
  clear hw1
  go_loopw [16] (fun i wr=>∃(j:Nat) (ps:Nat→Tr),j≤n∧i=.int .i64 j∧Hid (RowTr wr w.heap.size n ps)∧Hid (∀(p:Nat) (h:p<parts.length),p<j→Tr.Ins wr k (ps p)∧Tr.From (w.heap.size+1) k (ps p)∧(ps p).strip k=S k parts[p])∧Hid (Below w.heap.size w wr)) (fun i _=>n-(intOf i).toNat)
  case atStart=>exact ⟨0,fun _=>Tr.blank,Nat.zero_le _,rfl,H0,Lib.hid (fun p _ hp=>absurd hp (Nat.not_lt_zero _)),HB0⟩
  case round =>
    clear H0 HB0
    obtain ⟨j,ps,hj,rfl,HP,HD,HB⟩:=hrel
    have hgl:=HP.out.lt h0
    by_cases hlt:j<n
    · have hlt':j<parts.length:=by rw[←HN.out];exact hlt
      have HRj:=Lib.hid (range_below (HR.out j hlt') hbw (Nat.le_refl _) HB.out)
      have HIj:=Lib.hid (((HI.out j hlt').next HB.out).next (boxW_next wr parts[j]))
      have HSj:=Lib.hid (HSl.out j hlt')
      have hA2:=boxW_at wr parts[j]
      obtain ⟨t,ht⟩:∃t,parts[j]=t:=⟨_,rfl⟩
      have HT:=Lib.hid ht
      rw[ht] at HRj HIj HSj hA2
      clear ht
      have HBx:=Lib.hid (boxW_below HB.out t)
      have hjz:(0:Int)≤(j:Int):=by omega
      have hjn:(j:Int)<(n:Int):=by omega
      go_wp2_with (first
        | (refine wpList_load_mid rfl 27 _ rfl b (off+j*9) rfl t.cs _ HRj.out Tryz.underlying27 rfl (by rw[Tr.cs_length];kernel_rfl) ?_)
        | (refine wpList_store_row rfl 27 _ _ rfl wr.heap.size t.cs.toArray rfl rfl 27 Tr.blank.cs.toArray (At.new _ _ _) (by kernel_rfl) rfl (Tr.one _) ?_;change Exit.then _ _ _ _ (boxW wr t))
        | (refine wpList_load_row rfl 27 _ rfl wr.heap.size rfl 27 t.cs.toArray (0,0) _ hA2 Tryz.underlying27 rfl (by kernel_rfl) ?_) | fail)
      refine (HF.out t _ HIj.out HSj.out).mono ?_
      rintro e w3 ⟨t2,rfl,hin2,hfr2,hst2,hb3⟩
      have hsz:=boxW_size wr t
      have HP3:=Lib.hid ((HP.out.below (boxW_next wr t) hgl).below hb3 (by rw[hsz];omega))
      have HB3:=Lib.hid (HBx.out.trans (hb3.mono HBx.out.size))
      have HD3:Hid (∀(p:Nat) (h:p<parts.length),p<j→Tr.Ins w3 k (ps p)∧Tr.From (w.heap.size+1) k (ps p)∧(ps p).strip k=S k parts[p]):=fun p hp hpj =>
        ⟨((HD.out p hp hpj).1.next (boxW_next wr t)).next hb3,(HD.out p hp hpj).2⟩
      have HI2:=Lib.hid hin2
      have HF2:=Lib.hid (Tr.From.lower (show w.heap.size+1≤(boxW wr t).heap.size by rw[hsz];omega) k t2 hfr2)
      have HS2:Hid (t2.strip k=S k parts[j]):=by rw[HT.out];exact hst2
      clear hin2 hfr2 hst2 hb3 hsz hA2
      have hone:=Tr.one t2
      have hth:w3.there w.heap.size (j*9) t2.cs.toArray.size:=HP3.out.there j hlt
      go_wp2_with (first
        | (with_reducible show wpList _ _ _ (⟨none,.store _ _ _,_,_,_,_⟩::_) _ _
           refine wpList_store_mid rfl 27 _ _ rfl w.heap.size (j*9) t2.cs.toArray rfl rfl hth (by kernel_rfl) hone ?_
           change wpList _ _ _ _ _ (putW w3 w.heap.size j t2)) | fail)
      have hO:=putW_only w3 w.heap.size j t2
      refine ⟨⟨j+1,fun p=>if p=j then t2 else ps p,by omega,by go_num,Lib.hid (putW_row HP3.out hlt t2),Lib.hid (fun p hp hpj=>?_),Lib.hid (HB3.out.trans (hO.below (Nat.le_refl _)))⟩,by simp[intOf];omega⟩
      by_cases e:p=j
      · subst e
        simp only[if_true]
        exact ⟨HI2.out.only HF2.out hO (by omega),HF2.out,HS2.out⟩
      · simp only[if_neg e]
        have hq:=HD3.out p hp (by omega)
        exact ⟨hq.1.only hq.2.1 hO (by omega),hq.2.1,hq.2.2⟩
    · obtain rfl:j=n:=by omega
      go_wp2_with fail
      go_ret
      exact ⟨_,_,ps,rfl,fun e=>absurd e (by omega),fun _=>⟨w.heap.size,rfl,Nat.le_refl _,hgl,HP.out,fun p hp=>HD.out p hp (by rw[HN.out];exact hp)⟩,HB.out⟩
theorem eachAny (S:Nat→Tr→Tr) (k:Nat) (hF:MakesI 50 S k) (t:Tr) (w:World) (h:Tr.In w (k+1) t) (hs:slimS (k+1) t) :
    Calls Tryz.prog 66 #[.slice t.addr t.parts.length t.cap,.func (.func 50) #[] #[]] w (EachPostI S k t.parts.length t.parts w):=by
  by_cases h0:t.parts.length=0
  · rw[h0]
    refine (eachNil S k t.cap t.addr w).mono ?_
    rintro e w' ⟨rfl,hb⟩
    exact ⟨none,0,fun _=>Tr.blank,rfl,fun _=>⟨rfl,rfl⟩,fun q=>absurd q (Nat.lt_irrefl _),hb⟩
  · obtain ⟨b,off,ha,hb,hr⟩:=h.2.2.1 (by rw[h.2.1.1];omega)
    rw[ha]
    exact eachSome S k t.cap t.parts.length b off t.parts hF w rfl (by omega) hs.1 hb hr h.2.2.2 (fun j hj=>hs.2 _ (List.getElem_mem hj))
theorem copied_step (k:Nat) (ih:MakesI 50 (fun k t=>Tr.strip k t) k) (t:Tr) (w:World) (h:Tr.In w (k+1) t) (hs:slimS (k+1) t) :
    Calls Tryz.prog 50 #[.agg t.cs.toArray] w (MadeI (fun k t=>Tr.strip k t) (k+1) t w):=by
  have hn:=h.2.1.1
  have HN:=Lib.hid hn
  have HI:=Lib.hid h
  have HIH:=Lib.hid ih
  have HSl:=Lib.hid hs
  obtain ⟨w2,hw2⟩:∃w2,w2=(w.alloc (.cells t.cs.toArray 27)).alloc (.cells #[.int .i64 0,.int .u64 0,.int .u64 0,.int .u64 0,.int .u64 0,.slice none 0 0,.int .i64 0,.int .i64 0,.bool false] 27):=⟨_,rfl⟩
  have HA0:Hid (At w2 w.heap.size 27 t.cs.toArray):=Lib.hid (by rw[hw2];exact (At.new _ _ _).alloc _)
  have HZ0:Hid (At w2 (w.heap.size+1) 27 Tr.blank.cs.toArray):=Lib.hid (by rw[hw2];exact at_new' (w.alloc (.cells t.cs.toArray 27)) (w.heap.size+1) 27 (cs:=Tr.blank.cs.toArray) (by simp))
  have HB0:Hid (Below w.heap.size w w2):=Lib.hid (by rw[hw2];exact below_two _ _)
  have HW2:=Lib.hid hw2
  have hsz2:w2.heap.size=w.heap.size+2:=by rw[hw2];simp
  have HSz:=Lib.hid hsz2
  obtain ⟨c0,c5,c6,c7,c8⟩:=At.tr_cell HA0.out
  rw[hw2] at c5
  rw[hn] at c5
  clear h hs ih hn hw2 hsz2 c0 c6 c7 c8
  go_enter Tryz.func50,Tryz.ntmps50
  go_wp2_with fail
  rw[←HW2.out]
  refine (eachAny (fun k t=>Tr.strip k t) k HIH.out t _ (HI.out.next HB0.out) HSl.out).mono ?_
  rintro e w3 ⟨A,c2,ps,rfl,hA0,hrow,hb3⟩
  have HA3:=Lib.hid (HA0.out.below hb3 HA0.out.lt)
  have HZ3:=Lib.hid (HZ0.out.below hb3 HZ0.out.lt)
  have HB3:=Lib.hid (HB0.out.trans (hb3.mono HB0.out.size))
  have HR3:Hid (RowOfI (fun k t=>Tr.strip k t) w3 (w.heap.size+2) k t.parts.length A t.parts ps):=Lib.hid (by rw[←HSz.out];exact hrow)
  have HN0:=Lib.hid hA0
  clear hb3 hrow hA0 c5
  have q5:=HA3.out.cell 5
  have f5:=HA3.out.free 5
  have c0:=HA3.out.cell 0
  have f0:=HA3.out.free 0
  have r0:t.cs.toArray[0]?=some (.int .i64 t.kind):=rfl
  have r5:t.cs.toArray[5]?=some (.slice t.addr t.n t.cap):=rfl
  rw[r5] at q5
  rw[r0] at c0
  clear r0 r5
  have hAu:At (w3.setCell ⟨w.heap.size,5,none⟩ (.slice A t.parts.length c2)) w.heap.size 27 (Tr.node t.kind t.set A t.parts.length c2 ((List.range t.parts.length).map (ps)) t.lo t.hi t.neg).cs.toArray:=HA3.out.set 5 _
  have hZu:At (w3.setCell ⟨w.heap.size,5,none⟩ (.slice A t.parts.length c2)) (w.heap.size+1) 27 Tr.blank.cs.toArray:=HZ3.out.other (p:=⟨w.heap.size,5,none⟩) (by dsimp only;omega) _
  have hRu:RowOfI (fun k t=>Tr.strip k t) (w3.setCell ⟨w.heap.size,5,none⟩ (.slice A t.parts.length c2)) (w.heap.size+2) k t.parts.length A (t.parts) (ps):=HR3.out.only ((Only.refl w.heap.size w3).cell 5 _) (by omega)
  have hBu:Below w.heap.size w (w3.setCell ⟨w.heap.size,5,none⟩ (.slice A t.parts.length c2)):=HB3.out.setCell (Nat.le_refl _) _
  have hone:=Tr.one (Tr.node t.kind t.set A t.parts.length c2 ((List.range t.parts.length).map (ps)) t.lo t.hi t.neg)
  have HAu:=Lib.hid hAu
  have HZu:=Lib.hid hZu
  have HRu:=Lib.hid hRu
  have HBu:=Lib.hid hBu
  clear hAu hZu hRu hBu
  go_wp2_with (first
    | (refine wpList_load_row rfl 27 _ rfl w.heap.size rfl 27 (Tr.node t.kind t.set A t.parts.length c2 ((List.range t.parts.length).map (ps)) t.lo t.hi t.neg).cs.toArray (0,0) _ HAu.out Tryz.underlying27 rfl (by kernel_rfl) ?_)
    | (with_reducible show wpList _ _ _ (⟨none,.store _ _ _,_,_,_,_⟩::_) _ _
       refine wpList_store_row rfl 27 _ _ rfl (w.heap.size+1) (Tr.node t.kind t.set A t.parts.length c2 ((List.range t.parts.length).map (ps)) t.lo t.hi t.neg).cs.toArray rfl rfl 27 Tr.blank.cs.toArray HZu.out (by kernel_rfl) rfl hone ?_) | fail)
  have hO:Only (w.heap.size+1) (w3.setCell ⟨w.heap.size,5,none⟩ (.slice A t.parts.length c2)) ((w3.setCell ⟨w.heap.size,5,none⟩ (.slice A t.parts.length c2)).setRow (w.heap.size+1) (Tr.node t.kind t.set A t.parts.length c2 ((List.range t.parts.length).map (ps)) t.lo t.hi t.neg).cs.toArray):=Only.row _ _ _
  obtain ⟨m1,m2,m3⟩:=made_inI (c:=c2) (lo:=t.lo) (hi:=t.hi) (neg:=t.neg) (kd:=t.kind) HI.out.1.1 HI.out.1.2.1 HI.out.1.2.2.1 HI.out.1.2.2.2 (by rfl) HSl.out.1 (HRu.out.only hO (by omega))
  exact bodyPost_ret (results_cell_row Tryz.results50 _ _ (w.heap.size+1) 27 (Tr.node t.kind t.set A t.parts.length c2 ((List.range t.parts.length).map (ps)) t.lo t.hi t.neg).cs.toArray (0,0) _ rfl (HZu.out.row _) Tryz.underlying27 rfl (by kernel_rfl)) rfl ⟨_,rfl,m1,m2.lower (by omega),m3.trans (by rfl),HBu.out.trans (hO.below (by omega))⟩
theorem copied:∀k,MakesI 50 (fun k t=>Tr.strip k t) k
  | 0=>fun _ _ h=>h.elim
  | k+1=>fun t w h hs=>copied_step k (copied k) t w h hs
end Go.Proofs.YtgmpfnfomgadeaaGreat
