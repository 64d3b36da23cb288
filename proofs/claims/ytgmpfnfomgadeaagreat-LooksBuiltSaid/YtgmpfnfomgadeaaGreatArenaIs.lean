/- An arena as a struct of a row of nodes and a map of their numbers that may be nil: what it is in memory; New, Len, has, Node. -/
import Derived.Test.YtgmpfnfomgadeaaGreatMar
set_option linter.unusedSimpArgs false
set_option linter.unusedVariables false
set_option maxHeartbeats 4000000
set_option maxRecDepth 100000
namespace Go.Proofs.YtgmpfnfomgadeaaGreat
open Go.RowKit Go.Maps
structure AT (w:World) (a:Value) (ns:List Nd) (F:Nat→Prop) (g:Nat) (m:Option Nat) (v:Value):Prop where
  ptr:a=.pointer (some ⟨g,0,none⟩)
  box:At w g 58 #[v,.map m]
  row:NdRow w 0 v ns
  ids:(m=none∧ns=[])∨∃k,m=some k∧IdsAt w k ns
  fine:FineN ns
  max:ns.length≤20000
  apart:m≠some g∧v.ownBlock≠some g∧(m=none∨v.ownBlock≠m)
  own:∀b,F b↔b=g∨m=some b∨v.ownBlock=some b
def AA (w:World) (a:Value) (ns:List Nd) (F:Nat→Prop):Prop:=∃g m v,AT w a ns F g m v
theorem AT.low {w:World} {a:Value} {ns:List Nd} {F:Nat→Prop} {g:Nat} {m:Option Nat} {v:Value} (h:AT w a ns F g m v) (b:Nat) (hb:F b):b<w.heap.size:=by
  rcases (h.own b).1 hb with rfl | e | e
  · exact h.box.lt
  · rcases h.ids with ⟨q,_⟩ | ⟨k,q,hk⟩
    · rw[q] at e;cases e
    · rw[q] at e;injection e with e;rw[←e];exact hk.lt
  · exact (World.ownsRow.lt h.row b e).2
theorem AA.low {w:World} {a:Value} {ns:List Nd} {F:Nat→Prop} (h:AA w a ns F) (b:Nat) (hb:F b):b<w.heap.size:=by
  obtain ⟨g,m,v,h⟩:=h
  exact h.low b hb
theorem AT.keep {w w':World} {a:Value} {ns:List Nd} {F:Nat→Prop} {g:Nat} {m:Option Nat} {v:Value} (h:AT w a ns F g m v) (hk:∀b,F b→w'.heap[b]?=w.heap[b]?):AT w' a ns F g m v:=by
  refine ⟨h.ptr,(hk g ((h.own g).2 (Or.inl rfl))).trans h.box,?_,?_,h.fine,h.max,h.apart,h.own⟩
  · obtain ⟨h1,h2⟩:=id h.row
    refine ⟨h1,?_⟩
    rcases h2 with ⟨e,q⟩ | ⟨g',cap,cur,e,hb,hc,r⟩
    · exact Or.inl ⟨e,q⟩
    · exact Or.inr ⟨g',cap,cur,e,hb,(hk g' ((h.own g').2 (Or.inr (Or.inr (by rw[e];rfl))))).trans hc,r⟩
  · rcases h.ids with q | ⟨k,q,hid⟩
    · exact Or.inl q
    · exact Or.inr ⟨k,q,hid.kept (hk k ((h.own k).2 (Or.inr (Or.inl q))))⟩
theorem AA.keep {w w':World} {a:Value} {ns:List Nd} {F:Nat→Prop} (h:AA w a ns F) (hk:∀b,F b→w'.heap[b]?=w.heap[b]?):AA w' a ns F:=by
  obtain ⟨g,m,v,h⟩:=h
  exact ⟨g,m,v,h.keep hk⟩
theorem AT.next {w w':World} {a:Value} {ns:List Nd} {F:Nat→Prop} {g:Nat} {m:Option Nat} {v:Value} (h:AT w a ns F g m v) (hb:Below w.heap.size w w'):AT w' a ns F g m v:=h.keep (fun b hF=>hb.block b (h.low b hF))
theorem AA.next {w w':World} {a:Value} {ns:List Nd} {F:Nat→Prop} (h:AA w a ns F) (hb:Below w.heap.size w w'):AA w' a ns F:=h.keep (fun b hF=>hb.block b (h.low b hF))
theorem AA.drewN {w:World} {a:Value} {ns:List Nd} {F:Nat→Prop} (h:AA w a ns F) (q:Nat):AA (w.drewN q) a ns F:=h.keep (fun b hF=>rfl)
theorem AA.fine {w:World} {a:Value} {ns:List Nd} {F:Nat→Prop} (h:AA w a ns F):FineN ns:=by
  obtain ⟨g,m,v,h⟩:=h
  exact h.fine
theorem aNew (w:World):Calls Tryz.prog 9 #[] w fun e w'=>∃a F,e=.returned a∧AA w' a [] F∧(∀b,F b→w.heap.size≤b)∧Below w.heap.size w w':=by
  go_enter Tryz.func9,Tryz.ntmps9
  go_wp2_with fail
  go_ret
  have h1:Below w.heap.size w (w.alloc (.cells #[.slice none 0 0,.map none] 58)):=(Below.refl _ _).alloc (Nat.le_refl _) _
  refine ⟨_,fun b=>b=w.heap.size,rfl,⟨w.heap.size,none,.slice none 0 0,rfl,?_,NdRow.nil _ _,Or.inl ⟨rfl,rfl⟩,?_,by simp,?_,?_⟩,?_,h1⟩
  · exact At.new w 58 #[.slice none 0 0,.map none]
  · exact ⟨fun j hj=>absurd hj (Nat.not_lt_zero _),fun i j hi=>absurd hi (Nat.not_lt_zero _)⟩
  · exact ⟨(by intro e;cases e),(by intro e;cases e),Or.inl rfl⟩
  · intro b
    constructor
    · intro h
      exact Or.inl h
    · rintro (h | h | h)
      · exact h
      · cases h
      · cases h
  · rintro b h;omega
theorem aLen {w:World} {a:Value} {ns:List Nd} {F:Nat→Prop} (h:AA w a ns F):Calls Tryz.prog 11 #[a] w fun e w'=>e=.returned (.int .i64 ns.length)∧w'=w:=by
  obtain ⟨g,m,v,h⟩:=h
  obtain rfl:=h.ptr
  obtain ⟨A,c,rfl⟩:=h.row.len
  have hmx:=h.max
  have c0:w.cell? ⟨g,0,none⟩=some (.slice A ns.length c):=h.box.cell 0
  go_enter Tryz.func11,Tryz.ntmps11
  go_wp2_with fail
  go_ret
  exact ⟨rfl,rfl⟩
theorem aHasOf (a:Value) (n:Nat) (i:Int) (w:World) (hlen:Calls Tryz.prog 11 #[a] w fun e w'=>e=.returned (.int .i64 n)∧w'=w):Calls Tryz.prog 43 #[a,.int .i64 i] w fun e w'=>e=.returned (.bool (aIn i n))∧w'=w:=by
  by_cases h0:0≤i
  · have e0:decide (0≤i)=true:=decide_eq_true h0
    have HE:Hid (aIn i n=decide (i<(n:Int))):=Lib.hid (by unfold aIn;rw[e0,Bool.true_and])
    go_enter Tryz.func43,Tryz.ntmps43
    go_wp2_with fail
    refine hlen.mono ?_
    rintro e w1 ⟨rfl,rfl⟩
    go_wp2_with fail
    go_ret
    exact ⟨by rw[HE.out];rfl,rfl⟩
  · have e0:decide (0≤i)=false:=decide_eq_false h0
    have HE:Hid (aIn i n=false):=Lib.hid (by unfold aIn;rw[e0,Bool.false_and])
    go_enter Tryz.func43,Tryz.ntmps43
    go_wp2_with fail
    go_ret
    exact ⟨by rw[HE.out];rfl,rfl⟩
theorem aHas {w:World} {a:Value} {ns:List Nd} {F:Nat→Prop} (i:Int) (h:AA w a ns F):Calls Tryz.prog 43 #[a,.int .i64 i] w fun e w'=>e=.returned (.bool (aIn i ns.length))∧w'=w:=aHasOf a ns.length i w (aLen h)
theorem aIn_iff {i:Int} {n:Nat}:aIn i n=decide (0≤i∧i<n):=by
  unfold aIn
  by_cases h0:0≤i<;>by_cases h1:i<(n:Int)<;>simp[h0,h1]
theorem aNodeZ {w:World} {a:Value} {ns:List Nd} {F:Nat→Prop} (i:Int) (h:AA w a ns F) (hi:I64 i):Calls Tryz.prog 31 #[a,.int .i64 i] w fun e w'=>∃y:Nd,e=.returned (.tuple #[.agg y.cs.toArray,.bool (decide (0≤i∧i<ns.length))])∧(0≤i∧i<ns.length→y=ndAt ns i.toNat)∧Below w.heap.size w w'∧(¬(0≤i∧i<ns.length)→y=Nd.zero):=by
  obtain ⟨g,m,v,h⟩:=h
  obtain rfl:=h.ptr
  obtain ⟨A,c,rfl⟩:=h.row.len
  have hmx:=h.max
  have HT:=Lib.hid h
  have HBx:=Lib.hid ((Below.refl w.heap.size w).alloc (Nat.le_refl _) (.cells Nd.zero.cs.toArray 61))
  have HH:Hid (Calls Tryz.prog 43 #[.pointer (some ⟨g,0,none⟩),.int .i64 i] (w.alloc (.cells Nd.zero.cs.toArray 61)) fun e w'=>e=.returned (.bool (aIn i ns.length))∧w'=w.alloc (.cells Nd.zero.cs.toArray 61)):=Lib.hid (aHas i ⟨g,m,_,HT.out.next HBx.out⟩)
  have c0:(w.alloc (.cells Nd.zero.cs.toArray 61)).cell? ⟨g,0,none⟩=some (.slice A ns.length c):=(HT.out.next HBx.out).box.cell 0
  clear h
  by_cases hin:0≤i∧i<ns.length
  · have HIn:=Lib.hid hin
    obtain ⟨j,rfl⟩:∃j:Nat,i=(j:Int):=⟨i.toNat,by omega⟩
    have hj:j<ns.length:=by omega
    have h1:(0:Int)≤(j:Int):=by omega
    have h2:(j:Int)<(ns.length:Int):=by omega
    have HV:Hid (aIn (j:Int) ns.length=true):=Lib.hid (by rw[aIn_iff,decide_eq_true HIn.out])
    obtain ⟨_,_,e1,_,h3⟩:=HT.out.row.nds (by omega)
    injection e1 with e1 e7 e3
    subst e1 e3
    clear e7
    obtain ⟨b,off,rfl,hb,hr⟩:=h3 (by omega)
    have HR:=Lib.hid (hr j hj)
    obtain ⟨y,hy⟩:∃y,ndAt ns j=y:=⟨_,rfl⟩
    rw[hy] at HR
    have HY:=Lib.hid hy
    have hone:=Nd.one y
    have HA0:Hid ((w.alloc (.cells Nd.zero.cs.toArray 61)).rangeAt b (off+j*8) y.cs):=Lib.hid (fun i u hu=>((bcell HBx.out).1 b _ hb).trans (HR.out i u hu))
    clear h3 hr hy hin hb
    go_enter Tryz.func31,Tryz.ntmps31
    go_wp2_with fail
    refine HH.out.mono ?_
    rintro e w1 ⟨rfl,rfl⟩
    rw[HV.out]
    go_wp2_with (first
      | (with_reducible show wpList _ _ _ (⟨some 17,.load _ _,_,_,_,_⟩::_) _ _
         refine wpList_load_mid rfl 61 _ rfl b (off+j*8) rfl y.cs _ HA0.out Tryz.underlying61 rfl (by rw[Nd.cs_length];kernel_rfl) ?_)
      | (with_reducible show wpList _ _ _ (⟨none,.store _ _ _,_,_,_,_⟩::_) _ _
         refine wpList_store_row rfl 61 _ _ rfl w.heap.size y.cs.toArray rfl rfl 61 Nd.zero.cs.toArray (At.new _ _ _) (by kernel_rfl) rfl hone ?_
         first | change wpList _ _ _ _ _ (boxN w y) | change Exit.then _ _ _ _ (boxN w y))
      | fail)
    exact bodyPost_ret (results_row_tmp Tryz.results31 _ _ w.heap.size 61 y.cs.toArray (0,0) _ rfl (boxN_at w y) Tryz.underlying61 rfl (by rw[List.size_toArray,Nd.cs_length];kernel_rfl)) rfl ⟨y,by rw[decide_eq_true HIn.out];rfl,fun _=>by rw[Int.toNat_natCast];exact HY.out.symm,boxN_next w y,fun h=>absurd HIn.out h⟩
  · have HIn:=Lib.hid hin
    have HV:Hid (aIn i ns.length=false):=Lib.hid (by rw[aIn_iff,decide_eq_false HIn.out])
    clear hin
    go_enter Tryz.func31,Tryz.ntmps31
    go_wp2_with fail
    refine HH.out.mono ?_
    rintro e w1 ⟨rfl,rfl⟩
    rw[HV.out]
    have hone:=Nd.one Nd.zero
    have hb0:(#[Value.int .i64 0,Value.int .u64 0,Value.int .u64 0,Value.int .u64 0,Value.int .u64 0,Value.int .i64 0,Value.int .i64 0,Value.bool false]:Array Value)=Nd.zero.cs.toArray:=rfl
    go_wp2_with (first
      | (with_reducible show wpList _ _ _ (⟨none,.store _ _ _,_,_,_,_⟩::_) _ _
         refine wpList_store_row rfl 61 _ _ rfl w.heap.size Nd.zero.cs.toArray rfl rfl 61 Nd.zero.cs.toArray (At.new _ _ _) (by kernel_rfl) rfl hone ?_
         first | change wpList _ _ _ _ _ (boxN w Nd.zero) | change Exit.then _ _ _ _ (boxN w Nd.zero))
      | fail)
    exact bodyPost_ret (results_row_tmp Tryz.results31 _ _ w.heap.size 61 Nd.zero.cs.toArray (0,0) _ rfl (boxN_at w Nd.zero) Tryz.underlying61 rfl (by rw[List.size_toArray,Nd.cs_length];kernel_rfl)) rfl ⟨Nd.zero,by rw[decide_eq_false HIn.out];rfl,fun h=>absurd h HIn.out,boxN_next w Nd.zero,fun _=>rfl⟩
theorem aNode {w:World} {a:Value} {ns:List Nd} {F:Nat→Prop} (i:Int) (h:AA w a ns F) (hi:I64 i):Calls Tryz.prog 31 #[a,.int .i64 i] w fun e w'=>∃y:Nd,e=.returned (.tuple #[.agg y.cs.toArray,.bool (decide (0≤i∧i<ns.length))])∧(0≤i∧i<ns.length→y=ndAt ns i.toNat)∧Below w.heap.size w w' :=
  (aNodeZ i h hi).mono (fun _ _ ⟨y,h1,h2,h3,_⟩=>⟨y,h1,h2,h3⟩)
end Go.Proofs.YtgmpfnfomgadeaaGreat
