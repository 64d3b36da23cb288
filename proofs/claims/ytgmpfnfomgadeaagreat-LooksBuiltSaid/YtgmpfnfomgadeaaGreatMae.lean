/- Joined: Open, OpenSets, OpenTr, OpenNodes, Own, NodeBelow, TurnSpans, NodeTurn, ArenaSpec, ArenaMade, NodeRow, ArenaB, TurnTwice. -/
import Derived.Test.YtgmpfnfomgadeaaGreatProg
import Derived.Test.YtgmpfnfomgadeaaGreatMaa
import Derived.ProofKit
import Derived.OpenShut
import Derived.Laws.IdiomArrays
import Derived.Deep.Slices
import Derived.Test.YtgmpfnfomgadeaaGreatMad
import Derived.Laws.OwnMore
import Derived.Deep.AppendLies
import Derived.Test.YtgmpfnfomgadeaaGreatMab
import Derived.Test.YtgmpfnfomgadeaaGreatMac
import Derived.BigRegion
import Derived.BigQuiet
/- A set that is handed in by value, as data and as four words. -/
namespace Go.Proofs.YtgmpfnfomgadeaaGreat
open Go.ChangeShapes Go.WideShapes Go.ChangeAt Go.RowKit
theorem own:ownKnob Tryz.prog.godebug=none:=by kernel_rfl
theorem laidOut:laidOutB Tryz.prog=true:=by kernel_rfl
theorem u64_of_wf {n:Int} (h:(Lit.int .u64 n).wf=true):∃k:Nat,n=(k:Int)∧U64 k:=by
  obtain ⟨h1,h2⟩:=bounds_u64 h
  refine ⟨n.toNat,by omega,?_⟩
  unfold U64
  omega
section
variable {H:Type} {enc:TypeId×Value→H} {P:Program} {w:World} {base:Nat} {spare:Nat→Bool} {held:Bool}
theorem open_bytes {r:Reach} {b0:Nat} {T E:TypeId} {v:Value} {d:DataW H} {p:List MemPlace} (hu:P.underlying T=some (.slice E)) (hE:P.underlying E=some (.int .u8)) (hcE:P.cellsOf E=1)
    (hv:Value.okWide P w r b0 T v) (h:DataW.Trod enc P w base spare held T v d p):∃(A:Option Addr) (n c:Nat) (l:List Nat),IsBytes w A n l∧v=.slice A n c:=by
  obtain ⟨A,n,c,rfl⟩:=okWide_slice hu hv
  obtain ⟨fuel,hf⟩:=h
  rcases open_ints hu hE hcE hf with ⟨hcs,_⟩ | ⟨x,len,cap,zs,hcs,_,hl,hm,hz,_,hcell,hwz⟩
  · simp[Value.cells] at hcs
    obtain ⟨rfl,rfl,rfl⟩:=hcs
    exact ⟨none,0,0,[],⟨rfl,by omega,fun k hk=>by simp at hk,fun h0=>by omega⟩,rfl⟩
  · simp[Value.cells] at hcs
    obtain ⟨rfl,rfl,rfl⟩:=hcs
    have hzn:n≤zs.length:=by rw[hz];split<;>omega
    have hb:∀k,k<zs.length→0≤zs.getD k 0∧zs.getD k 0≤255:=by
      intro k hk
      refine bounds_u8 (hwz _ ?_)
      rw[List.getD_eq_getElem?_getD,List.getElem?_eq_getElem hk]
      exact List.getElem_mem _
    refine ⟨some x,n,c,(zs.take n).map Int.toNat,⟨?_,?_,?_,?_⟩,rfl⟩
    · simp;omega
    · unfold maxLen at hm;omega
    · intro k hk
      simp at hk
      have h1:=hb k (by omega)
      rw[List.getD_eq_getElem?_getD,List.getElem?_eq_getElem (by omega)] at h1
      simp at h1 ⊢
      omega
    · intro h0
      have hc0:=hcell 0 (by omega)
      obtain ⟨b,off,spot⟩:=x
      have hspot:spot=none:=by simpa [Addr.add] using World.cell?_spot hc0
      subst hspot
      refine ⟨b,off,rfl,?_,?_⟩
      · exact block_lt_of_cell (a:=⟨b,off,none⟩) (by simpa [Addr.add] using hc0)
      · intro k hk
        simp at hk
        have h1:=hb k (by omega)
        have h2:=hcell k (by omega)
        rw[List.getD_eq_getElem?_getD,List.getElem?_eq_getElem (by omega)] at h1 h2
        have hadd:(⟨b,off,none⟩:Addr).add k=⟨b,off+k,none⟩:=by unfold Addr.add;split<;>simp_all
        rw[hadd] at h2
        simp at h1 h2 ⊢
        rw[h2]
        congr 2
        omega
theorem trod_below {t:TypeId} {v:Value} {d:DataW H} {p:List MemPlace} (h:DataW.Trod enc P w base spare held t v d p):∀x∈p,x.block<w.heap.size:=by
  obtain ⟨m,hm⟩:=h;exact DataW.trod_lt m _ _ _ hm
end
end Go.Proofs.YtgmpfnfomgadeaaGreat

/- A list of sets, and classes, that are handed in: as data and as cells. -/
namespace Go.Proofs.YtgmpfnfomgadeaaGreat
open Go.ChangeShapes Go.WideShapes Go.ChangeAt Go.RowKit
instance:Inhabited St:=⟨⟨0,0,0,0⟩⟩
section
variable {H:Type} {enc:TypeId×Value→H} {P:Program} {w:World} {base:Nat} {spare:Nat→Bool} {held:Bool}
theorem set_of_cells {fuel:Nat} {T E:TypeId} {c0 c1 c2 c3:Value} {x:DataW H×List MemPlace} (hu:P.underlying T=some (.array 4 E)) (hE:P.underlying E=some (.int .u64)) (hcE:P.cellsOf E=1)
    (h:DataW.trod enc P w base spare held fuel T [c0,c1,c2,c3]=some x):∃s:St,s.Ok∧c0=.int .u64 s.w0∧c1=.int .u64 s.w1∧c2=.int .u64 s.w2∧c3=.int .u64 s.w3:=by
  obtain ⟨y0,y1,y2,y3,m,_,hy0,hy1,hy2,hy3⟩:=trod_array4 hu hcE h
  obtain ⟨x0,e0,_,w0⟩:=DataW.trod_int hE hy0
  obtain ⟨x1,e1,_,w1⟩:=DataW.trod_int hE hy1
  obtain ⟨x2,e2,_,w2⟩:=DataW.trod_int hE hy2
  obtain ⟨x3,e3,_,w3⟩:=DataW.trod_int hE hy3
  simp at e0 e1 e2 e3
  subst e0 e1 e2 e3
  obtain ⟨k0,rfl,u0⟩:=u64_of_wf w0
  obtain ⟨k1,rfl,u1⟩:=u64_of_wf w1
  obtain ⟨k2,rfl,u2⟩:=u64_of_wf w2
  obtain ⟨k3,rfl,u3⟩:=u64_of_wf w3
  exact ⟨⟨k0,k1,k2,k3⟩,⟨u0,u1,u2,u3⟩,rfl,rfl,rfl,rfl⟩
theorem add_plain' (b o j:Nat):(⟨b,o,none⟩:Addr).add j=⟨b,o+j,none⟩:=by unfold Addr.add;split<;>simp_all
end
end Go.Proofs.YtgmpfnfomgadeaaGreat

/- A pattern that is handed in: as data and as cells. -/
namespace Go.Proofs.YtgmpfnfomgadeaaGreat
open Go.ChangeShapes Go.WideShapes Go.ChangeAt Go.RowKit
instance:Inhabited Tr:=⟨.node 0 ⟨0,0,0,0⟩ none 0 0 [] 0 0 false⟩
theorem Tr.In.le {w:World} {k:Nat} {t:Tr} (h:Tr.In w k t):∀(j:Nat),Tr.In w (k+j) t
  | 0=>h
  | j+1=>Tr.In.up _ _ (Tr.In.le h j)
theorem range_of_cells {w:World} {base b off n:Nat} {cs:List Value} (h:w.cells? base ⟨b,off,none⟩ n=some cs):w.rangeAt b off cs:=by
  unfold World.cells? at h
  split at h
  · intro j v hv
    have hj:=mapM_some_get h j j
    have hl:j<cs.length:=(List.getElem?_eq_some_iff.1 hv).1
    have hn:cs.length=n:=by simpa using mapM_some_length h
    have:=hj (by rw[List.getElem?_eq_getElem (by rw[List.length_range];omega),List.getElem_range])
    rw[add_plain'] at this
    rw[this];exact hv
  · cases h
theorem map_range_at {α:Type} (f:Nat→α) (n j:Nat) (h:j<((List.range n).map f).length):((List.range n).map f)[j]'h=f j:=by simp
theorem i64_of_wf {n:Int} (h:(Lit.int .i64 n).wf=true):I64 n:=by
  have:=bounds_i64 h
  unfold I64;omega
section
variable {H:Type} {enc:TypeId×Value→H} {P:Program} {w:World} {base:Nat} {spare:Nat→Bool} {held:Bool}
end
end Go.Proofs.YtgmpfnfomgadeaaGreat

/- Nodes that are handed in, one or a list: as data and as cells. -/
namespace Go.Proofs.YtgmpfnfomgadeaaGreat
open Go.ChangeShapes Go.WideShapes Go.ChangeAt Go.RowKit
instance:Inhabited Nd:=⟨Nd.zero⟩
def NdFit (x:Nd):Prop:=I64 x.kind∧x.set.Ok∧I64 x.a∧I64 x.b
section
variable {H:Type} {enc:TypeId×Value→H} {P:Program} {w:World} {base:Nat} {spare:Nat→Bool} {held:Bool}
end
end Go.Proofs.YtgmpfnfomgadeaaGreat

/- Slices of the call's own: a row of whole numbers that reads as a list. No program is named here. -/
namespace Go.Proofs.YtgmpfnfomgadeaaGreat
open Go.RowKit
theorem below_grown {w w':World} (hb:Below w.heap.size w w') (row:Option Nat):w.grownBy w' row:=⟨hb.os,hb.tape,hb.output,hb.size,fun i hi _=>hb.block i hi⟩
theorem SetAt.grown {w w':World} {g:Nat} {t:TypeId} {s:St} {row:Option Nat} (h:SetAt w g t s) (hg:w.grownBy w' row) (hr:∀k,row=some k→g<k):SetAt w' g t s :=
  (hg.block g h.lt (fun e=>by have:=hr g e.symm;omega)).trans h
def IntRow (w:World) (base:Nat) (e:TypeId) (k:IntKind) (v:Value) (l:List Nat):Prop:=w.ownsRow base e 1 v l.length (l.map (fun b=>Value.int k (b:Nat)))
section
variable {w w' w0:World} {base:Nat} {e:TypeId} {k:IntKind} {v:Value} {l:List Nat}
theorem IntRow.nil (w:World) (base:Nat) (e:TypeId) (k:IntKind):IntRow w base e k (.slice none 0 0) []:=World.ownsRow_nil w base e 1
theorem IntRow.heap (h:IntRow w base e k v l) (hh:w0.heap=w.heap):IntRow w0 base e k v l:=by
  unfold IntRow World.ownsRow at h ⊢
  rw[hh]
  exact h
theorem IntRow.drew (h:IntRow w base e k v l):IntRow w.drew base e k v l:=h.heap rfl
theorem IntRow.grown {row:Option Nat} (h:IntRow w base e k v l) (hg:w.grownBy w' row) (hr:v.ownBlock=none∨v.ownBlock≠row):IntRow w' base e k v l:=World.ownsRow.kept h hg hr
theorem IntRow.next (h:IntRow w base e k v l) (hb:Below w.heap.size w w'):IntRow w' base e k v l :=
  World.ownsRow.kept (row:=none) h (below_grown hb none) (by cases hv:v.ownBlock<;>simp)
theorem IntRow.step (h:IntRow w base e k v l) (hb:Below w0.heap.size w0 w') (hh:w0.heap=w.heap):IntRow w' base e k v l:=(h.heap hh).next hb
theorem IntRow.alloc (h:IntRow w base e k v l) (o:Obj):IntRow (w.alloc o) base e k v l:=World.ownsRow.alloc h o
theorem IntRow.mono {base':Nat} (h:IntRow w base e k v l) (hb:base'≤base):IntRow w base' e k v l:=by
  refine ⟨h.1,?_⟩
  rcases h.2 with hn | ⟨g,cap,cur,hv,hbg,rest⟩
  · exact .inl hn
  · exact .inr ⟨g,cap,cur,hv,by omega,rest⟩
theorem IntRow.len (h:IntRow w base e k v l):∃A cap,v=.slice A l.length cap:=by
  rcases h.2 with ⟨rfl,hn⟩ | ⟨g,cap,cur,rfl,_⟩
  · exact ⟨none,0,by rw[hn]⟩
  · exact ⟨_,_,rfl⟩
theorem IntRow.form (h:IntRow w base e k v l) (hn:0<l.length):∃g cap,v=.slice (some ⟨g,0,none⟩) l.length cap∧base≤g∧g<w.heap.size∧l.length≤cap∧cap≤maxLen:=by
  rcases h.2 with ⟨rfl,h0⟩ | ⟨g,cap,cur,rfl,hb,hg,hc,hm,_⟩
  · omega
  · exact ⟨g,cap,rfl,hb,(Array.getElem?_eq_some_iff.1 hg).1,hc,hm⟩
theorem IntRow.at {g cap n:Nat} (h:IntRow w base e k (.slice (some ⟨g,0,none⟩) n cap) l) (j:Nat) (hj:j<l.length):w.cell? ⟨g,j,none⟩=some (.int k (l[j]:Nat)):=by
  have hl:n=l.length:=by
    rcases h.2 with ⟨hv,_⟩ | ⟨g',cap',cur,hv,_⟩
    · cases hv
    · injection hv
  subst hl
  rw[World.ownsRow.cellAt h j (by omega)]
  simp[hj]
theorem IntRow.max (h:IntRow w base e k v l):l.length≤maxLen:=by
  rcases h.2 with ⟨_,h0⟩ | ⟨g,cap,cur,_,_,_,hc,hm,_⟩
  · rw[h0];exact Nat.zero_le _
  · omega
theorem IntRow.low (h:IntRow w base e k v l):∀g,v.ownBlock=some g→base≤g:=fun g hg=>(World.ownsRow.lt h g hg).1
theorem IntRow.push {b:Nat} (h:w.ownsRow base e 1 v (l.length+1) (l.map (fun b=>Value.int k (b:Nat))++[Value.int k (b:Nat)])):IntRow w base e k v (l++[b]):=by
  unfold IntRow
  simpa using h
end
end Go.Proofs.YtgmpfnfomgadeaaGreat

/- bolterlaw09.below: is a node below another one, or itself? -/
set_option linter.unusedSimpArgs false
set_option linter.unusedVariables false
namespace Go.Proofs.YtgmpfnfomgadeaaGreat
open Go.RowKit
end Go.Proofs.YtgmpfnfomgadeaaGreat

/- What a pattern turned round matches: backwards what the pattern does. No program is walked here. -/
namespace Go.Proofs.YtgmpfnfomgadeaaGreat
open Go.RowKit
abbrev Tbl:=Nat→Nat→Bool
def Eqv (n:Nat) (f g:Tbl):Prop:=∀i j,i<n→j<n→f i j=g i j
theorem Eqv.refl (n:Nat) (f:Tbl):Eqv n f f:=fun _ _ _ _=>rfl
theorem Eqv.symm {n:Nat} {f g:Tbl} (h:Eqv n f g):Eqv n g f:=fun i j hi hj=>(h i j hi hj).symm
theorem Eqv.trans {n:Nat} {f g h:Tbl} (a:Eqv n f g) (b:Eqv n g h):Eqv n f h:=fun i j hi hj=>(a i j hi hj).trans (b i j hi hj)
theorem then_iff (f g:Tbl) (n i j:Nat):thenF f g n i j=true↔∃m,m<n∧i≤m∧m≤j∧f i m=true∧g m j=true:=by
  unfold thenF thenPart
  rw[List.any_eq_true]
  constructor
  · rintro ⟨m,hm,h⟩
    rw[Bool.and_eq_true,Bool.and_eq_true,decide_eq_true_iff] at h
    exact ⟨m,List.mem_range.1 hm,h.1.1,h.1.2,h.2.1,h.2.2⟩
  · rintro ⟨m,hm,h1,h2,h3,h4⟩
    exact ⟨m,List.mem_range.2 hm,by rw[h3,h4,decide_eq_true ⟨h1,h2⟩];rfl⟩
theorem bool_iff {a b:Bool} (h:a=true↔b=true):a=b:=by cases a<;>cases b<;>simp_all
theorem then_congr {n:Nat} {f f' g g':Tbl} (hf:Eqv n f f') (hg:Eqv n g g'):Eqv n (thenF f g n) (thenF f' g' n):=fun i j hi hj=>bool_iff (by
  rw[then_iff,then_iff]
  constructor
  · rintro ⟨m,h0,h1,h2,h3,h4⟩
    exact ⟨m,h0,h1,h2,by rw[←hf i m hi h0];exact h3,by rw[←hg m j h0 hj];exact h4⟩
  · rintro ⟨m,h0,h1,h2,h3,h4⟩
    exact ⟨m,h0,h1,h2,by rw[hf i m hi h0];exact h3,by rw[hg m j h0 hj];exact h4⟩)
theorem then_assoc (n:Nat) (f g h:Tbl):Eqv n (thenF (thenF f g n) h n) (thenF f (thenF g h n) n):=fun i j hi hj=>bool_iff (by
  rw[then_iff,then_iff]
  constructor
  · rintro ⟨k,k0,k1,k2,k3,k4⟩
    obtain ⟨m,m0,m1,m2,m3,m4⟩:=(then_iff _ _ _ _ _).1 k3
    exact ⟨m,m0,m1,by omega,m3,(then_iff _ _ _ _ _).2 ⟨k,k0,m2,k2,m4,k4⟩⟩
  · rintro ⟨m,m0,m1,m2,m3,m4⟩
    obtain ⟨k,k0,k1,k2,k3,k4⟩:=(then_iff _ _ _ _ _).1 m4
    exact ⟨k,k0,by omega,k2,(then_iff _ _ _ _ _).2 ⟨m,m0,m1,k1,m3,k3⟩,k4⟩)
theorem eqF_iff (i j:Nat):eqF i j=true↔i=j:=by unfold eqF;exact decide_eq_true_iff
theorem eq_then_swap (n:Nat) (f:Tbl):Eqv n (thenF eqF f n) (thenF f eqF n):=fun i j hi hj=>bool_iff (by
  rw[then_iff,then_iff]
  constructor
  · rintro ⟨m,m0,m1,m2,m3,m4⟩
    obtain rfl:=(eqF_iff _ _).1 m3
    exact ⟨j,hj,by omega,Nat.le_refl _,m4,(eqF_iff _ _).2 rfl⟩
  · rintro ⟨m,m0,m1,m2,m3,m4⟩
    obtain rfl:=(eqF_iff _ _).1 m4
    exact ⟨i,hi,Nat.le_refl _,by omega,(eqF_iff _ _).2 rfl,m3⟩)
theorem or_congr {n:Nat} {f f' g g':Tbl} (h:Eqv n f f') (h':Eqv n g g'):Eqv n (fun i j=>f i j||g i j) (fun i j=>f' i j||g' i j):=fun i j hi hj=>by
  show (_||_)=(_||_);rw[h i j hi hj,h' i j hi hj]
theorem any_congr {n:Nat} {f g:Tbl} (h:Eqv n f g):∀m,Eqv n (anyTo f n m) (anyTo g n m)
  | 0=>Eqv.refl _ _
  | m+1=>or_congr (any_congr h m) (then_congr (any_congr h m) h)
theorem spans_congr (l:List Nat):∀(k:Nat) (a b:Tr),a.strip k=b.strip k→spansS l k a=spansS l k b
  | 0,_,_,_=>rfl
  | k+1,a,b,h=>by
    obtain ⟨e1,e2,e3,e4,e5,e6,e7⟩:=strip_parts h
    unfold spansS
    rw[map_strip (spans_congr l k) e7,e1,e2,e3,e4,e5]
end Go.Proofs.YtgmpfnfomgadeaaGreat

/- What turning nodes round does to their tables: mathematics; no program is named. -/
set_option linter.unusedSimpArgs false
set_option linter.unusedVariables false
namespace Go.Proofs.YtgmpfnfomgadeaaGreat
open Go.RowKit
theorem nodesF_prefix (l bits:List Nat) (ns:List Nd) (a j:Nat) (ha:a<j):∀m,j≤m→(nodesF l bits ns m)[a]?=(nodesF l bits ns j)[a]?
  | 0,h=>by omega
  | m+1,h=>by
    by_cases e:j=m+1
    · rw[e]
    · show (nodesF l bits ns m++[_])[a]?=_
      rw[List.getElem?_append_left (by rw[nodesF_length];omega)]
      exact nodesF_prefix l bits ns a j ha m (by omega)
theorem nodeF_congr (l bits:List Nat) {fs gs:List (Nat→Nat→Bool)} {x:Nd} (ha:(x.kind=3∨x.kind=4∨x.kind=5)∨(x.kind=6∨x.kind=7)→fAt fs x.a=fAt gs x.a) (hb:x.kind=3∨x.kind=4∨x.kind=5→fAt fs x.b=fAt gs x.b):nodeF l bits fs x=nodeF l bits gs x:=by
  unfold nodeF
  by_cases h1:x.kind=1
  · rw[if_pos h1,if_pos h1]
  rw[if_neg h1,if_neg h1]
  by_cases h2:x.kind=2
  · rw[if_pos h2,if_pos h2]
  rw[if_neg h2,if_neg h2]
  by_cases h3:x.kind=3
  · rw[if_pos h3,if_pos h3,ha (Or.inl (Or.inl h3)),hb (Or.inl h3)]
  rw[if_neg h3,if_neg h3]
  by_cases h4:x.kind=4
  · rw[if_pos h4,if_pos h4,ha (Or.inl (Or.inr (Or.inl h4))),hb (Or.inr (Or.inl h4))]
  rw[if_neg h4,if_neg h4]
  by_cases h5:x.kind=5
  · rw[if_pos h5,if_pos h5,ha (Or.inl (Or.inr (Or.inr h5))),hb (Or.inr (Or.inr h5))]
  rw[if_neg h5,if_neg h5]
  by_cases h6:x.kind=6
  · rw[if_pos h6,if_pos h6,ha (Or.inr (Or.inl h6))]
  rw[if_neg h6,if_neg h6]
  by_cases h7:x.kind=7
  · rw[if_pos h7,if_pos h7,ha (Or.inr (Or.inr h7))]
  rw[if_neg h7,if_neg h7]
def nodeT (l bits:List Nat) (ns:List Nd) (i:Int):Nat→Nat→Bool:=fAt (nodesF l bits ns ns.length) i
theorem fAt_prefix (l bits:List Nat) (ns:List Nd) (a:Int) (j:Nat) (h0:0≤a) (h:a<j) (hj:j≤ns.length):fAt (nodesF l bits ns j) a=nodeT l bits ns a:=by
  unfold nodeT fAt
  rw[nodesF_prefix l bits ns a.toNat j (by omega) ns.length hj]
theorem nodeT_eq (l bits:List Nat) (ns:List Nd) (hok:∀j,j<ns.length→NdOk (ndAt ns j) j) (i:Nat) (hi:i<ns.length):nodeT l bits ns i=nodeF l bits (nodesF l bits ns ns.length) (ndAt ns i):=by
  have h1:nodeT l bits ns i=nodeF l bits (nodesF l bits ns i) (ndAt ns i):=by
    rw[←fAt_prefix l bits ns i (i+1) (by omega) (by omega) (by omega)]
    unfold fAt
    rw[Int.toNat_natCast]
    show ((nodesF l bits ns i++[_])[i]?).getD noF=_
    rw[List.getElem?_append_right (by rw[nodesF_length];omega),nodesF_length,Nat.sub_self]
    rfl
  rw[h1]
  have ho:=hok i hi
  refine nodeF_congr l bits (fun h=>?_) (fun h=>?_)
  · have ha:0≤(ndAt ns i).a∧(ndAt ns i).a<i:=by
      rcases h with h | h
      · exact ⟨(ho.2.1 h).1,(ho.2.1 h).2.1⟩
      · exact ho.2.2.1 h
    exact fAt_prefix l bits ns _ i ha.1 ha.2 (by omega)
  · have hb:=(ho.2.1 h).2.2
    exact fAt_prefix l bits ns _ i hb.1 hb.2 (by omega)
end Go.Proofs.YtgmpfnfomgadeaaGreat

/- What an arena does, said of any way to read one out of the memory; and what an arena of some nodes is. -/
set_option linter.unusedVariables false
namespace Go.Proofs.YtgmpfnfomgadeaaGreat
open Go.RowKit
structure OffF (F:Nat→Prop) (w w':World):Prop where
  os:w'.os=w.os
  tape:w'.tape=w.tape
  output:w'.output=w.output
  size:w.heap.size≤w'.heap.size
  block:∀b,b<w.heap.size→¬F b→w'.heap[b]?=w.heap[b]?
theorem OffF.below {F:Nat→Prop} {w w':World} {B:Nat} (h:OffF F w w') (hF:∀b,F b→B≤b) (hB:B≤w.heap.size):Below B w w' :=
  ⟨h.os,h.tape,h.output,h.size,fun b hb=>h.block b (by omega) (fun q=>by have:=hF b q;omega)⟩
theorem OffF.of {F:Nat→Prop} {w w':World} (h:Below w.heap.size w w'):OffF F w w':=⟨h.os,h.tape,h.output,h.size,fun b hb _=>h.block b hb⟩
def findN (ns:List Nd) (x:Nd):Nat:=ns.findIdx (fun y=>y.eqb x)
def putS (ns:List Nd) (x:Nd):List Nd:=if x.right ns.length then (if findN ns x<ns.length then ns else ns++[x]) else ns
def putId (ns:List Nd) (x:Nd):Int:=if x.right ns.length then (findN ns x:Int) else 0
def putE (ns:List Nd) (x:Nd):Int:=if x.right ns.length then 0 else 1
theorem putS_le (ns:List Nd) (x:Nd):(putS ns x).length≤ns.length+1:=by
  unfold putS
  split
  · split
    · omega
    · rw[List.length_append];simp
  · omega
def FineN (ns:List Nd):Prop:=(∀j,j<ns.length→(ndAt ns j).right j=true∧NdFit (ndAt ns j))∧∀i j,i<ns.length→j<ns.length→ndAt ns i=ndAt ns j→i=j
theorem right_ok {x:Nd} {n:Nat} (h:x.right n=true) (hf:NdFit x):NdOk x n:=by
  unfold Nd.right aIn at h
  refine ⟨hf.2.1,fun hk=>?_,fun hk=>?_,fun hk=>?_⟩
  · rw[if_neg (by omega),if_neg (by omega),if_pos hk] at h
    simp only[Bool.and_eq_true,decide_eq_true_eq] at h
    omega
  · rw[if_neg (by omega),if_neg (by omega),if_neg (by omega),if_pos hk] at h
    simp only[Bool.and_eq_true,decide_eq_true_eq] at h
    omega
  · rw[if_neg (by omega),if_neg (by omega),if_neg (by omega),if_neg (by omega),if_pos hk] at h
    simp only[Bool.and_eq_true,decide_eq_true_eq] at h
    omega
theorem FineN.ok {ns:List Nd} (h:FineN ns) (j:Nat) (hj:j<ns.length):NdOk (ndAt ns j) j:=right_ok (h.1 j hj).1 (h.1 j hj).2
section
variable {AA:World→Value→List Nd→(Nat→Prop)→Prop}
end
end Go.Proofs.YtgmpfnfomgadeaaGreat

/- bolterlaw09.Made, bolterref09.Nodes, bolterlaw09.awake: by what an arena does. -/
set_option linter.unusedSimpArgs false
set_option linter.unusedVariables false
namespace Go.Proofs.YtgmpfnfomgadeaaGreat
open Go.RowKit
section
variable {AA:World→Value→List Nd→(Nat→Prop)→Prop}
end
end Go.Proofs.YtgmpfnfomgadeaaGreat

/- Nodes in a row of the call's own, appended to; bolterref09.Nodes by what an arena does. -/
set_option linter.unusedSimpArgs false
set_option linter.unusedVariables false
namespace Go.Proofs.YtgmpfnfomgadeaaGreat
open Go.RowKit
def ndL (l:List Nd):List Value:=l.flatMap Nd.cs
theorem ndL_at (l:List Nd):∀(k i:Nat) (h:k<l.length),i<8→(ndL l)[k*8+i]?=(ndAt l k).cs[i]?:=by
  induction l with
  | nil=>intro k i h;exact absurd h (Nat.not_lt_zero _)
  | cons x l ih =>
    intro k i h hi
    show (x.cs++ndL l)[k*8+i]?=_
    cases k with
    | zero=>rw[Nat.zero_mul,Nat.zero_add,List.getElem?_append_left (by rw[Nd.cs_length];exact hi)];rfl
    | succ k =>
      rw[List.getElem?_append_right (by rw[Nd.cs_length];omega),Nd.cs_length,show (k+1)*8+i-8=k*8+i by omega,ih k i (by simpa using h) hi]
      rfl
theorem ndL_snoc (l:List Nd) (x:Nd):ndL l++x.cs=ndL (l++[x]):=by unfold ndL;rw[List.flatMap_append];simp
section
variable {w w':World} {base:Nat} {v:Value} {l:List Nd}
def NdRow (w:World) (base:Nat) (v:Value) (l:List Nd):Prop:=w.ownsRow base 61 8 v l.length (ndL l)
theorem NdRow.nil (w:World) (base:Nat):NdRow w base (.slice none 0 0) []:=World.ownsRow_nil w base _ 8
theorem NdRow.grown {row:Option Nat} (h:NdRow w base v l) (hg:w.grownBy w' row) (hr:v.ownBlock=none∨v.ownBlock≠row):NdRow w' base v l:=World.ownsRow.kept h hg hr
theorem NdRow.next (h:NdRow w base v l) (hb:Below w.heap.size w w'):NdRow w' base v l :=
  World.ownsRow.kept (row:=none) h (below_grown hb none) (by cases hv:v.ownBlock<;>simp)
theorem NdRow.alloc (h:NdRow w base v l) (o:Obj):NdRow (w.alloc o) base v l:=World.ownsRow.alloc h o
theorem NdRow.low (h:NdRow w base v l):∀g,v.ownBlock=some g→base≤g:=fun g hg=>(World.ownsRow.lt h g hg).1
theorem NdRow.push {x:Nd} (h:w.ownsRow base 61 8 v (l.length+1) (ndL l++x.cs)):NdRow w base v (l++[x]):=by
  unfold NdRow
  rw[List.length_append,←ndL_snoc]
  exact h
theorem NdRow.len (h:NdRow w base v l):∃A cap,v=.slice A l.length cap:=by
  rcases h.2 with ⟨rfl,hn⟩ | ⟨g,cap,cur,rfl,_⟩
  · exact ⟨none,0,by rw[hn]⟩
  · exact ⟨_,_,rfl⟩
theorem NdRow.nds (h:NdRow w base v l) (hl:l.length≤9223372036854775807):NdsAt w v l:=by
  obtain ⟨A,cap,rfl⟩:=h.len
  refine ⟨A,cap,rfl,hl,fun h0=>?_⟩
  obtain ⟨g,cap',e,_,hg⟩:=World.ownsRow.form h h0
  injection e with e1 _ e3
  subst e1
  refine ⟨g,0,rfl,hg,fun j hj i u hu=>?_⟩
  have hi:i<8:=by
    have:=(List.getElem?_eq_some_iff.1 hu).1
    rwa [Nd.cs_length] at this
  rw[Nat.zero_add,World.ownsRow.cellAt h (j*8+i) (by omega),ndL_at l j i hj hi]
  exact hu
end
theorem info_node:(Tryz.prog.info? 61).map (fun i=>(i.zero,i.size,i.bytes))=some (some (.agg Nd.zero.cs.toArray),8,64):=by kernel_rfl
theorem take_succ_nd (ns:List Nd) (j:Nat) (h:j<ns.length):ns.take (j+1)=ns.take j++[ndAt ns j]:=by
  rw[ndAt_lt h,List.take_add_one,List.getElem?_eq_getElem h];rfl
section
variable {AA:World→Value→List Nd→(Nat→Prop)→Prop}
end
end Go.Proofs.YtgmpfnfomgadeaaGreat

/- What an arena does that other packages build on, up to its full size: New, Put, Len, Node; bolterlaw09.Made and bolterref09.Nodes by it. -/
set_option linter.unusedSimpArgs false
set_option linter.unusedVariables false
set_option maxHeartbeats 4000000
set_option maxRecDepth 100000
namespace Go.Proofs.YtgmpfnfomgadeaaGreat
open Go.RowKit
structure ArenaBig (AA:World→Value→List Nd→(Nat→Prop)→Prop):Prop where
  low:∀{w:World} {a:Value} {ns:List Nd} {F:Nat→Prop},AA w a ns F→∀b,F b→b<w.heap.size
  keep:∀{w w':World} {a:Value} {ns:List Nd} {F:Nat→Prop},AA w a ns F→(∀b,F b→w'.heap[b]?=w.heap[b]?)→AA w' a ns F
  fine:∀{w:World} {a:Value} {ns:List Nd} {F:Nat→Prop},AA w a ns F→FineN ns
  max:∀{w:World} {a:Value} {ns:List Nd} {F:Nat→Prop},AA w a ns F→ns.length≤20000
  ptr:∀{w:World} {a:Value} {ns:List Nd} {F:Nat→Prop},AA w a ns F→∃g,a=.pointer (some ⟨g,0,none⟩)
  new:∀w:World,Calls Tryz.prog 9 #[] w fun e w'=>∃a F,e=.returned a∧AA w' a [] F∧(∀b,F b→w.heap.size≤b)∧Below w.heap.size w w'
  put:∀{w:World} {a:Value} {ns:List Nd} {F:Nat→Prop} (x:Nd),AA w a ns F→NdFit x→ns.length<20000→Calls Tryz.prog 84 #[a,.agg x.cs.toArray] w fun e w'=>∃F',e=.returned (.tuple #[.int .i64 (putId ns x),.int .i64 (putE ns x)])∧AA w' a (putS ns x) F'∧(∀b,F' b→F b∨w.heap.size≤b)∧OffF F w w'
  len:∀{w:World} {a:Value} {ns:List Nd} {F:Nat→Prop},AA w a ns F→Calls Tryz.prog 11 #[a] w fun e w'=>e=.returned (.int .i64 ns.length)∧∃q,w'=w.drewN q
  node:∀{w:World} {a:Value} {ns:List Nd} {F:Nat→Prop} (i:Int),AA w a ns F→I64 i→Calls Tryz.prog 31 #[a,.int .i64 i] w fun e w'=>∃y:Nd,e=.returned (.tuple #[.agg y.cs.toArray,.bool (decide (0≤i∧i<ns.length))])∧(0≤i∧i<ns.length→y=ndAt ns i.toNat)∧Below w.heap.size w w'
section
variable {AA:World→Value→List Nd→(Nat→Prop)→Prop}
theorem ArenaBig.next (S:ArenaBig AA) {w w':World} {a:Value} {ns:List Nd} {F:Nat→Prop} (h:AA w a ns F) (hb:Below w.heap.size w w'):AA w' a ns F:=S.keep h (fun b q=>hb.block b (S.low h b q))
theorem refNodesB (S:ArenaBig AA) (ns:List Nd) (a:Value) (F:Nat→Prop) (hl:ns.length≤20000) (w:World) (h:AA w a ns F) :
    Calls Tryz.prog 13 #[a] w fun e w'=>∃v,e=.returned v∧NdRow w' w.heap.size v ns∧Below w.heap.size w w':=by
  have HA:=Lib.hid h
  clear h
  obtain ⟨i0,hi0,hz0,hz1,hz2⟩:=info_parts info_node
  go_enter Tryz.func13,Tryz.ntmps13
  go_wp2_with fail
  refine (S.len HA.out).mono ?_
  rintro e w1 ⟨rfl,q1,rfl⟩
  have HB1:=Lib.hid (below_drewN' (Below.refl w.heap.size w) q1)
  go_wp2_with fail
  go_loopw [3,9] (fun v x wr=>∃(j:Nat),j≤ns.length∧x=.int .i64 j∧Hid (NdRow wr w.heap.size v (ns.take j))∧Hid (Below w.heap.size w wr)) (fun _ x _=>ns.length-(intOf x).toNat)
  case atStart=>exact ⟨0,Nat.zero_le _,rfl,Lib.hid (NdRow.nil _ _),HB1⟩
  case round =>
    clear HB1
    obtain ⟨j,hj,rfl,HR,HB⟩:=hrel
    by_cases hjl:j<ns.length
    · have hjz:(0:Int)≤(j:Int):=by omega
      have hjn:(j:Int)<(ns.length:Int):=by omega
      have HT:=Lib.hid (take_succ_nd ns j hjl)
      have HTl:Hid ((ns.take j).length=j):=Lib.hid (by rw[List.length_take];omega)
      go_wp2_with fail
      refine (S.node (j:Int) (S.next HA.out HB.out) (by unfold I64;omega)).mono ?_
      rintro e w4 ⟨y,rfl,hy,hb4⟩
      rw[Int.toNat_natCast] at hy
      rw[←hy ⟨by omega,by omega⟩] at HT
      have HB4:=Lib.hid (HB.out.trans (hb4.mono HB.out.size))
      have HR4:=Lib.hid (HR.out.next hb4)
      have HXb:=Lib.hid (boxN_at w4 y)
      have HBb:=Lib.hid (boxN_next w4 y)
      have HRb:=Lib.hid (HR4.out.next HBb.out)
      have HBs:=Lib.hid (HB4.out.trans (HBb.out.mono HB4.out.size))
      have hone:=Nd.one y
      have hcl:y.cs.length=8:=rfl
      have hs5:=HBs.out.size
      clear hy hb4
      go_wp2_with (first
        | (with_reducible show wpList _ _ _ (⟨none,.store _ _ _,_,_,_,_⟩::_) _ _
           refine wpList_store_row rfl 61 _ _ rfl w4.heap.size y.cs.toArray rfl rfl 61 Nd.zero.cs.toArray (At.new _ _ _) (by kernel_rfl) rfl hone ?_
           first | change wpList _ _ _ _ _ (boxN w4 y) | change Exit.then _ _ _ _ (boxN w4 y))
        | (with_reducible show wpList _ _ _ (⟨_,.load 61 (.tmp 5),_,_,_,_⟩::_) _ _
           refine wpList_load_row_want (by rfl) 61 _ rfl w4.heap.size rfl 61 y.cs.toArray (0,0) _ HXb.out Tryz.underlying61 rfl (by rw[List.size_toArray,Nd.cs_length];kernel_rfl) ?_)
        | (at_builtin
           refine wpList_append_own _ rfl _ _ _ rfl w.heap.size 61 i0 _ 8 64 Tryz.underlying47 hi0 hz0 hz1 hz2 rfl (by omega) u3 _ _ rfl (HRb.out.alloc _) ⟨_,0,none⟩ 1 1 y.cs rfl rfl ?c1 ?c2 ?c3 ?c4 ?c5 ?_
           case c1=>exact (World.news_of_block (At.new _ _ _))
           case c2=>simp[Nd.cs,Value.oneCell']
           case c3=>rw[HTl.out];unfold maxLen;omega
           case c4=>rw[HTl.out];omega
           case c5=>simp;omega
           intro v' w6 hown6 hg6 _)
        | fail)
      refine ⟨⟨j+1,by omega,by go_num,Lib.hid ?_,Lib.hid ((HBs.out.alloc hs5 _).grown hg6 (by simp;omega) (fun g hg=>HRb.out.low g hg))⟩,by simp[intOf];omega⟩
      rw[HT.out];exact NdRow.push hown6
    · obtain rfl:ns.length=j:=by omega
      go_wp2_with fail
      go_ret
      exact ⟨_,rfl,by have:=HR.out;rw[List.take_length] at this;exact this,HB.out⟩
end
end Go.Proofs.YtgmpfnfomgadeaaGreat

/- A node that is turned round twice is the node: mathematics; no program is named. -/
set_option linter.unusedSimpArgs false
set_option linter.unusedVariables false
namespace Go.Proofs.YtgmpfnfomgadeaaGreat
open Go.RowKit
theorem nd_ext {x y:Nd} (h0:x.kind=y.kind) (h1:x.set=y.set) (h2:x.a=y.a) (h3:x.b=y.b) (h4:x.neg=y.neg):x=y:=by
  cases x;cases y;simp_all
theorem right_bare {x:Nd} {n:Nat} (h:x.right n=true) (hk:x.kind=0∨x.kind=1):x.set=noSt∧x.a=0∧x.b=0∧x.neg=false:=by
  unfold Nd.right at h
  rw[if_pos hk] at h
  have e:=(Nd.eqb_iff _ _).1 h
  rw[e]
  exact ⟨rfl,rfl,rfl,rfl⟩
theorem right_set {x:Nd} {n:Nat} (h:x.right n=true) (hk:x.kind=2):x.a=0∧x.b=0∧x.neg=false:=by
  unfold Nd.right at h
  rw[if_neg (by omega),if_pos hk] at h
  have e:=(Nd.eqb_iff _ _).1 h
  rw[e]
  exact ⟨rfl,rfl,rfl⟩
theorem right_two {x:Nd} {n:Nat} (h:x.right n=true) (hk:x.kind=3∨x.kind=4∨x.kind=5):x.set=noSt∧x.neg=false:=by
  unfold Nd.right at h
  rw[if_neg (by omega),if_neg (by omega),if_pos hk] at h
  simp only[Bool.and_eq_true] at h
  have e:=(Nd.eqb_iff _ _).1 h.1.1
  rw[e]
  exact ⟨rfl,rfl⟩
theorem right_one {x:Nd} {n:Nat} (h:x.right n=true) (hk:x.kind=6∨x.kind=7):x.set=noSt∧x.b=0∧x.neg=false:=by
  unfold Nd.right at h
  rw[if_neg (by omega),if_neg (by omega),if_neg (by omega),if_pos hk] at h
  simp only[Bool.and_eq_true] at h
  have e:=(Nd.eqb_iff _ _).1 h.1
  rw[e]
  exact ⟨rfl,rfl,rfl⟩
theorem right_kind {x:Nd} {n:Nat} (h:x.right n=true):x.kind=0∨x.kind=1∨x.kind=2∨x.kind=3∨x.kind=4∨x.kind=5∨x.kind=6∨x.kind=7∨x.kind=8:=by
  unfold Nd.right at h
  by_cases k0:x.kind=0∨x.kind=1
  · omega
  rw[if_neg k0] at h
  by_cases k2:x.kind=2
  · omega
  rw[if_neg k2] at h
  by_cases k3:x.kind=3∨x.kind=4∨x.kind=5
  · omega
  rw[if_neg k3] at h
  by_cases k6:x.kind=6∨x.kind=7
  · omega
  rw[if_neg k6] at h
  by_cases k8:x.kind=8
  · omega
  rw[if_neg k8] at h
  cases h
end Go.Proofs.YtgmpfnfomgadeaaGreat
