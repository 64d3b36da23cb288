/- Joined: NormMath, NormLaws, NormSpec. -/
import Derived.Test.YtgmpfnfomgadeaaGreatMae
/- Nodes that are put together so that what is alike is one: mathematics; no program is named. -/
set_option linter.unusedSectionVars false
set_option linter.unusedSimpArgs false
set_option linter.unusedVariables false
namespace Go.Proofs.YtgmpfnfomgadeaaGreat
open Go.RowKit
def kd (ns:List Nd) (x:Int):Int:=(ndAt ns x.toNat).kind
def ka (ns:List Nd) (x:Int):Int:=(ndAt ns x.toNat).a
def kb (ns:List Nd) (x:Int):Int:=(ndAt ns x.toNat).b
def isIn (ns:List Nd) (x:Int):Prop:=0≤x∧x<ns.length
theorem isIn.up {ns:List Nd} {x:Int} (h:isIn ns x) (more:List Nd):isIn (ns++more) x:=by unfold isIn at *;rw[List.length_append];omega
theorem nd_up {ns:List Nd} {x:Int} (h:isIn ns x) (more:List Nd):ndAt (ns++more) x.toNat=ndAt ns x.toNat:=by
  unfold isIn at h
  unfold ndAt
  rw[List.getElem?_append_left (by omega)]
theorem kd_up {ns:List Nd} {x:Int} (h:isIn ns x) (more:List Nd):kd (ns++more) x=kd ns x:=by unfold kd;rw[nd_up h]
theorem ka_up {ns:List Nd} {x:Int} (h:isIn ns x) (more:List Nd):ka (ns++more) x=ka ns x:=by unfold ka;rw[nd_up h]
theorem kb_up {ns:List Nd} {x:Int} (h:isIn ns x) (more:List Nd):kb (ns++more) x=kb ns x:=by unfold kb;rw[nd_up h]
section
variable {ns:List Nd} (hf:FineN ns)
include hf
theorem fine_nd {x:Int} (hx:isIn ns x):(ndAt ns x.toNat).right x.toNat=true∧NdFit (ndAt ns x.toNat):=hf.1 x.toNat (by unfold isIn at hx;omega)
theorem fine_ok {x:Int} (hx:isIn ns x):NdOk (ndAt ns x.toNat) x.toNat:=hf.ok x.toNat (by unfold isIn at hx;omega)
theorem fine_eq {x y:Int} (hx:isIn ns x) (hy:isIn ns y) (h:ndAt ns x.toNat=ndAt ns y.toNat):x=y:=by
  unfold isIn at hx hy
  have:=hf.2 x.toNat y.toNat (by omega) (by omega) h
  omega
theorem in_two {x:Int} (hx:isIn ns x) (hk:kd ns x=3∨kd ns x=4∨kd ns x=5):(isIn ns (ka ns x)∧ka ns x<x)∧(isIn ns (kb ns x)∧kb ns x<x):=by
  have h:=(fine_ok hf hx).2.1 hk
  unfold isIn at *
  unfold ka kb
  omega
theorem in_one {x:Int} (hx:isIn ns x) (hk:kd ns x=6∨kd ns x=7):isIn ns (ka ns x)∧ka ns x<x:=by
  have h:=(fine_ok hf hx).2.2.1 hk
  unfold isIn at *
  unfold ka
  omega
theorem kind_in {x:Int} (hx:isIn ns x):kd ns x=0∨kd ns x=1∨kd ns x=2∨kd ns x=3∨kd ns x=4∨kd ns x=5∨kd ns x=6∨kd ns x=7∨kd ns x=8:=right_kind (fine_nd hf hx).1
theorem bare_eq {x y:Int} (hx:isIn ns x) (hy:isIn ns y) (h0:kd ns x=0∨kd ns x=1) (h:kd ns x=kd ns y):x=y:=by
  obtain ⟨a1,a2,a3,a4⟩:=right_bare (fine_nd hf hx).1 h0
  obtain ⟨b1,b2,b3,b4⟩:=right_bare (fine_nd hf hy).1 (by unfold kd at *;rw[←h];exact h0)
  exact fine_eq hf hx hy (nd_ext h (by rw[a1,b1]) (by rw[a2,b2]) (by rw[a3,b3]) (by rw[a4,b4]))
theorem bytes_eq {x y:Int} (hx:isIn ns x) (hy:isIn ns y) (h0:kd ns x=2) (h1:kd ns y=2) (hs:(ndAt ns x.toNat).set=(ndAt ns y.toNat).set):x=y:=by
  obtain ⟨a2,a3,a4⟩:=right_set (fine_nd hf hx).1 h0
  obtain ⟨b2,b3,b4⟩:=right_set (fine_nd hf hy).1 h1
  exact fine_eq hf hx hy (nd_ext (by unfold kd at *;rw[h0,h1]) hs (by rw[a2,b2]) (by rw[a3,b3]) (by rw[a4,b4]))
theorem two_eq {x y:Int} (hx:isIn ns x) (hy:isIn ns y) (h0:kd ns x=3∨kd ns x=4∨kd ns x=5) (h:kd ns x=kd ns y) (ha:ka ns x=ka ns y) (hb:kb ns x=kb ns y):x=y:=by
  obtain ⟨a1,a4⟩:=right_two (fine_nd hf hx).1 h0
  obtain ⟨b1,b4⟩:=right_two (fine_nd hf hy).1 (by unfold kd at *;rw[←h];exact h0)
  exact fine_eq hf hx hy (nd_ext h (by rw[a1,b1]) ha hb (by rw[a4,b4]))
theorem one_eq {x y:Int} (hx:isIn ns x) (hy:isIn ns y) (h0:kd ns x=6∨kd ns x=7) (h:kd ns x=kd ns y) (ha:ka ns x=ka ns y):x=y:=by
  obtain ⟨a1,a3,a4⟩:=right_one (fine_nd hf hx).1 h0
  obtain ⟨b1,b3,b4⟩:=right_one (fine_nd hf hy).1 (by unfold kd at *;rw[←h];exact h0)
  exact fine_eq hf hx hy (nd_ext h (by rw[a1,b1]) ha (by rw[a3,b3]) (by rw[a4,b4]))
end
def memF (ns:List Nd) (k:Int):Nat→Int→List Int
  | 0,x=>[x]
  | f+1,x=>if kd ns x=k then memF ns k f (ka ns x)++memF ns k f (kb ns x) else [x]
def mem (ns:List Nd) (k x:Int):List Int:=memF ns k (x.toNat+1) x
section
variable {ns:List Nd} (hf:FineN ns) {k:Int} (hk:k=4∨k=5)
include hf hk
theorem memF_fuel:∀(f g:Nat) (x:Int),isIn ns x→x.toNat<f→x.toNat<g→memF ns k f x=memF ns k g x
  | 0,_,_,_,h,_=>absurd h (Nat.not_lt_zero _)
  | _+1,0,_,_,_,h=>absurd h (Nat.not_lt_zero _)
  | f+1,g+1,x,hx,h1,h2=>by
    unfold memF
    by_cases e:kd ns x=k
    · rw[if_pos e,if_pos e]
      obtain ⟨⟨a0,a1⟩,b0,b1⟩:=in_two hf hx (by omega)
      unfold isIn at a0 b0 hx
      rw[memF_fuel f g _ a0 (by omega) (by omega),memF_fuel f g _ b0 (by omega) (by omega)]
    · rw[if_neg e,if_neg e]
theorem mem_node {x:Int} (hx:isIn ns x) (e:kd ns x=k):mem ns k x=mem ns k (ka ns x)++mem ns k (kb ns x):=by
  obtain ⟨⟨a0,a1⟩,b0,b1⟩:=in_two hf hx (by omega)
  have h0:=a0
  have h1:=b0
  have h2:=hx
  unfold isIn at h0 h1 h2
  show memF ns k (x.toNat+1) x=_
  rw[show memF ns k (x.toNat+1) x=if kd ns x=k then memF ns k x.toNat (ka ns x)++memF ns k x.toNat (kb ns x) else [x] from rfl,if_pos e]
  unfold mem
  rw[memF_fuel hf hk _ _ _ a0 (show (ka ns x).toNat<x.toNat by omega) (Nat.lt_succ_self _),memF_fuel hf hk _ _ _ b0 (show (kb ns x).toNat<x.toNat by omega) (Nat.lt_succ_self _)]
omit hf hk in
theorem mem_leaf {x:Int} (e:kd ns x≠k):mem ns k x=[x]:=by
  show (if kd ns x=k then _ else [x])=_
  rw[if_neg e]
theorem mem_in:∀(n:Nat) (x:Int),x.toNat≤n→isIn ns x→∀y∈mem ns k x,isIn ns y∧y≤x∧kd ns y≠k
  | n,x,hn,hx,y,hy=>by
    by_cases e:kd ns x=k
    · obtain ⟨⟨a0,a1⟩,b0,b1⟩:=in_two hf hx (by omega)
      rw[mem_node hf hk hx e,List.mem_append] at hy
      have h0:=a0
      have h1:=b0
      have h2:=hx
      unfold isIn at h0 h1 h2
      cases n with
      | zero=>omega
      | succ n =>
        rcases hy with hy | hy
        · obtain ⟨q1,q2,q3⟩:=mem_in n _ (by omega) a0 y hy
          exact ⟨q1,by omega,q3⟩
        · obtain ⟨q1,q2,q3⟩:=mem_in n _ (by omega) b0 y hy
          exact ⟨q1,by omega,q3⟩
    · rw[mem_leaf e,List.mem_singleton] at hy
      subst hy
      exact ⟨hx,Int.le_refl _,e⟩
theorem mem_ne {x:Int} (hx:isIn ns x):∃y,y∈mem ns k x:=by
  have:∀(n:Nat) (x:Int),x.toNat≤n→isIn ns x→∃y,y∈mem ns k x:=by
    intro n
    induction n with
    | zero =>
      intro x hn hx
      by_cases e:kd ns x=k
      · obtain ⟨⟨a0,a1⟩,_⟩:=in_two hf hx (by omega)
        unfold isIn at a0 hx
        omega
      · exact ⟨x,by rw[mem_leaf e];exact List.mem_singleton_self _⟩
    | succ n ih =>
      intro x hn hx
      by_cases e:kd ns x=k
      · obtain ⟨⟨a0,a1⟩,_⟩:=in_two hf hx (by omega)
        have h0:=a0
        unfold isIn at h0 hx
        obtain ⟨y,hy⟩:=ih _ (by omega) a0
        exact ⟨y,by rw[mem_node hf hk hx e];exact List.mem_append_left _ hy⟩
      · exact ⟨x,by rw[mem_leaf e];exact List.mem_singleton_self _⟩
  exact this _ x (Nat.le_refl _) hx
theorem mem_up (more:List Nd):∀(n:Nat) (x:Int),x.toNat≤n→isIn ns x→mem (ns++more) k x=mem ns k x:=by
  have:∀(f:Nat) (x:Int),isIn ns x→memF (ns++more) k f x=memF ns k f x:=by
    intro f
    induction f with
    | zero=>intro x _;rfl
    | succ f ih =>
      intro x hx
      unfold memF
      rw[kd_up hx,ka_up hx,kb_up hx]
      by_cases e:kd ns x=k
      · obtain ⟨⟨a0,a1⟩,b0,b1⟩:=in_two hf hx (by omega)
        rw[if_pos e,if_pos e,ih _ a0,ih _ b0]
      · rw[if_neg e,if_neg e]
  intro n x _ hx
  exact this _ x hx
end
def isNo (ns:List Nd) (x:Int):Bool:=decide (kd ns x=0)
def isAl (ns:List Nd) (x:Int):Bool:=decide (kd ns x=6)&&decide (kd ns (ka ns x)=0)
def topB (ns:List Nd) (k x:Int):Bool:=if k=4 then isAl ns x else isNo ns x
def unitB (ns:List Nd) (k x:Int):Bool:=if k=4 then isNo ns x else isAl ns x
inductive Atom
  | top
  | oth (y:Int)
  | some
  | byte (b:Nat)
def hit (ns:List Nd) (k y:Int):Atom→Bool
  | .top=>false
  | .oth z=>decide (y=z)&&(!decide (kd ns y=2)&&!unitB ns k y)
  | .some=>decide (kd ns y=2)
  | .byte b=>decide (b<256)&&(decide (kd ns y=2)&&((ndAt ns y.toNat).set.has b != decide (k=5)))
def view (ns:List Nd) (k x:Int) (a:Atom):Bool:=topB ns k x||(mem ns k x).any (fun y=>hit ns k y a)
structure Canon (ns:List Nd):Prop where
  fine:FineN ns
  cat:∀x,isIn ns x→kd ns x=3→(kd ns (ka ns x)≠0∧kd ns (ka ns x)≠1∧kd ns (ka ns x)≠3)∧kd ns (kb ns x)≠0∧kd ns (kb ns x)≠1
  join:∀k,k=4∨k=5→∀x,isIn ns x→kd ns x=k→kd ns (ka ns x)≠k∧(mem ns k x).Pairwise (·<·)∧(∀y∈mem ns k x,topB ns k y=false∧unitB ns k y=false)∧(∀y∈mem ns k x,∀z∈mem ns k x,kd ns y=2→kd ns z=2→y=z)
  not:∀x,isIn ns x→kd ns x=6→kd ns (ka ns x)≠6
  star:∀x,isIn ns x→kd ns x=7→kd ns (ka ns x)≠0∧kd ns (ka ns x)≠1∧kd ns (ka ns x)≠7
  bytes:∀x,isIn ns x→kd ns x=2→∃b,b<256∧(ndAt ns x.toNat).set.has b=true
theorem lt_ext:∀{l m:List Int},l.Pairwise (·<·)→m.Pairwise (·<·)→(∀z,z∈l↔z∈m)→l=m
  | [],[],_,_,_=>rfl
  | [],y::m,_,_,h=>by have:=(h y).2 (by simp);cases this
  | x::l,[],_,_,h=>by have:=(h x).1 (by simp);cases this
  | x::l,y::m,hl,hm,h=>by
    obtain ⟨h1,h2⟩:=List.pairwise_cons.1 hl
    obtain ⟨h3,h4⟩:=List.pairwise_cons.1 hm
    have e:x=y:=by
      have p:=(h x).1 (by simp)
      have q:=(h y).2 (by simp)
      rcases List.mem_cons.1 p with p | p
      · exact p
      · rcases List.mem_cons.1 q with q | q
        · exact q.symm
        · have:=h3 x p;have:=h1 y q;omega
    subst e
    rw[lt_ext h2 h4 (fun z=>⟨fun hz=>by
      rcases List.mem_cons.1 ((h z).1 (List.mem_cons_of_mem _ hz)) with q | q
      · have:=h1 z hz;omega
      · exact q,fun hz=>by
      rcases List.mem_cons.1 ((h z).2 (List.mem_cons_of_mem _ hz)) with q | q
      · have:=h3 z hz;omega
      · exact q⟩)]
section
variable {ns:List Nd} (hc:Canon ns)
include hc
theorem no_eq {x y:Int} (hx:isIn ns x) (hy:isIn ns y) (h0:isNo ns x=true) (h1:isNo ns y=true):x=y:=by
  have h0:=of_decide_eq_true h0
  have h1:=of_decide_eq_true h1
  exact bare_eq hc.fine hx hy (Or.inl h0) (by rw[h0,h1])
theorem al_eq {x y:Int} (hx:isIn ns x) (hy:isIn ns y) (h0:isAl ns x=true) (h1:isAl ns y=true):x=y:=by
  unfold isAl at h0 h1
  rw[Bool.and_eq_true,decide_eq_true_eq,decide_eq_true_eq] at h0 h1
  have ax:=in_one hc.fine hx (Or.inl h0.1)
  have ay:=in_one hc.fine hy (Or.inl h1.1)
  exact one_eq hc.fine hx hy (Or.inl h0.1) (by rw[h0.1,h1.1]) (bare_eq hc.fine ax.1 ay.1 (Or.inl h0.2) (by rw[h0.2,h1.2]))
theorem top_eq {k x y:Int} (hx:isIn ns x) (hy:isIn ns y) (h0:topB ns k x=true) (h1:topB ns k y=true):x=y:=by
  unfold topB at h0 h1
  by_cases e:k=4
  · rw[if_pos e] at h0 h1;exact al_eq hc hx hy h0 h1
  · rw[if_neg e] at h0 h1;exact no_eq hc hx hy h0 h1
theorem unit_eq {k x y:Int} (hx:isIn ns x) (hy:isIn ns y) (h0:unitB ns k x=true) (h1:unitB ns k y=true):x=y:=by
  unfold unitB at h0 h1
  by_cases e:k=4
  · rw[if_pos e] at h0 h1;exact no_eq hc hx hy h0 h1
  · rw[if_neg e] at h0 h1;exact al_eq hc hx hy h0 h1
omit hc in
theorem topB_kind {k x:Int} (h:topB ns k x=true):kd ns x=0∨kd ns x=6:=by
  unfold topB at h
  split at h
  · unfold isAl at h;rw[Bool.and_eq_true,decide_eq_true_eq] at h;exact Or.inr h.1
  · exact Or.inl (of_decide_eq_true h)
omit hc in
theorem unitB_kind {k x:Int} (h:unitB ns k x=true):kd ns x=0∨kd ns x=6:=by
  unfold unitB at h
  split at h
  · exact Or.inl (of_decide_eq_true h)
  · unfold isAl at h;rw[Bool.and_eq_true,decide_eq_true_eq] at h;exact Or.inr h.1
theorem els {k x:Int} (hk:k=4∨k=5) (hx:isIn ns x) (ht:topB ns k x=false) (hu:unitB ns k x=false) :
    (mem ns k x).Pairwise (·<·)∧(∀y∈mem ns k x,isIn ns y∧kd ns y≠k∧topB ns k y=false∧unitB ns k y=false)∧(∀y∈mem ns k x,∀z∈mem ns k x,kd ns y=2→kd ns z=2→y=z):=by
  by_cases e:kd ns x=k
  · obtain ⟨_,h2,h3,h4⟩:=hc.join k hk x hx e
    refine ⟨h2,fun y hy=>?_,h4⟩
    have:=mem_in hc.fine hk _ x (Nat.le_refl _) hx y hy
    exact ⟨this.1,this.2.2,h3 y hy⟩
  · rw[mem_leaf e]
    refine ⟨List.pairwise_singleton _ _,fun y hy=>?_,fun y hy z hz _ _=>?_⟩
    · rw[List.mem_singleton] at hy;subst hy;exact ⟨hx,e,ht,hu⟩
    · rw[List.mem_singleton] at hy hz;rw[hy,hz]
omit hc in
theorem view_top {k x:Int}:view ns k x .top=topB ns k x:=by
  unfold view
  rw[show (mem ns k x).any (fun y=>hit ns k y .top)=false by rw[List.any_eq_false];intro y _;simp[hit],Bool.or_false]
theorem view_unit {k x:Int} (hk:k=4∨k=5) (hx:isIn ns x) (hu:unitB ns k x=true) (a:Atom):view ns k x a=false:=by
  have hkd:=unitB_kind hu
  have ht:topB ns k x=false:=by
    unfold unitB at hu
    unfold topB
    by_cases e:k=4
    · rw[if_pos e] at hu ⊢
      unfold isAl
      rw[decide_eq_false (show ¬kd ns x=6 by have:=of_decide_eq_true hu;omega)];rfl
    · rw[if_neg e] at hu ⊢
      unfold isAl at hu
      rw[Bool.and_eq_true,decide_eq_true_eq] at hu
      exact decide_eq_false (by omega)
  unfold view
  rw[ht,mem_leaf (by omega),Bool.false_or,List.any_cons,List.any_nil,Bool.or_false]
  have h2:decide (kd ns x=2)=false:=decide_eq_false (by omega)
  cases a with
  | top=>rfl
  | oth z=>show (decide (x=z)&&(!decide (kd ns x=2)&&!unitB ns k x))=false;rw[hu];simp
  | some=>exact h2
  | byte b=>show (decide (b<256)&&(decide (kd ns x=2)&&_))=false;rw[h2];simp
theorem view_oth {k x y:Int} (hk:k=4∨k=5) (hx:isIn ns x) (ht:topB ns k x=false) (hu:unitB ns k x=false) (h2:kd ns y≠2):view ns k x (.oth y)=true↔y∈mem ns k x:=by
  unfold view
  rw[ht,Bool.false_or,List.any_eq_true]
  constructor
  · rintro ⟨z,hz,h⟩
    have h:(decide (z=y)&&(!decide (kd ns z=2)&&!unitB ns k z))=true:=h
    rw[Bool.and_eq_true,decide_eq_true_eq] at h
    rw[←h.1];exact hz
  · intro hy
    refine ⟨y,hy,?_⟩
    show (decide (y=y)&&(!decide (kd ns y=2)&&!unitB ns k y))=true
    rw[((els hc hk hx ht hu).2.1 y hy).2.2.2,decide_eq_true rfl,decide_eq_false h2];rfl
theorem view_some {k x y:Int} (hk:k=4∨k=5) (hx:isIn ns x) (ht:topB ns k x=false) (hy:y∈mem ns k x) (h2:kd ns y=2):view ns k x .some=true:=by
  unfold view
  rw[ht,Bool.false_or,List.any_eq_true]
  exact ⟨y,hy,decide_eq_true h2⟩
theorem view_byte {k x y:Int} {b:Nat} (hk:k=4∨k=5) (hx:isIn ns x) (ht:topB ns k x=false) (hu:unitB ns k x=false) (hy:y∈mem ns k x) (h2:kd ns y=2) (hb:b<256):view ns k x (.byte b)=((ndAt ns y.toNat).set.has b != decide (k=5)):=by
  unfold view
  rw[ht,Bool.false_or]
  have hh:∀z,hit ns k z (.byte b)=(decide (kd ns z=2)&&((ndAt ns z.toNat).set.has b != decide (k=5))):=fun z=>by
    show (decide (b<256)&&_)=_
    rw[decide_eq_true hb,Bool.true_and]
  cases hv:((ndAt ns y.toNat).set.has b != decide (k=5)) with
  | true =>
    rw[List.any_eq_true]
    exact ⟨y,hy,by rw[hh,decide_eq_true h2,hv];rfl⟩
  | false =>
    rw[List.any_eq_false]
    intro z hz
    rw[hh]
    by_cases e:kd ns z=2
    · rw[(els hc hk hx ht hu).2.2 z hz y hy e h2,hv];simp
    · rw[decide_eq_false e];simp
theorem mem_sub {k x y:Int} (hk:k=4∨k=5) (hx:isIn ns x) (hy:isIn ns y) (tx:topB ns k x=false) (ty:topB ns k y=false) (ux:unitB ns k x=false) (uy:unitB ns k y=false) (h:∀a,view ns k x a=view ns k y a) (z:Int) (hz:z∈mem ns k x):z∈mem ns k y:=by
  have hzx:=(els hc hk hx tx ux).2.1 z hz
  by_cases e:kd ns z=2
  · have hs:=view_some hc hk hx tx hz e
    rw[h] at hs
    unfold view at hs
    rw[ty,Bool.false_or,List.any_eq_true] at hs
    obtain ⟨z',hz',h2⟩:=hs
    have h2:kd ns z'=2:=of_decide_eq_true h2
    have hzy:=(els hc hk hy ty uy).2.1 z' hz'
    have:z=z':=bytes_eq hc.fine hzx.1 hzy.1 e h2 (St.ext_has (fine_nd hc.fine hzx.1).2.2.1 (fine_nd hc.fine hzy.1).2.2.1 (fun b hb=>by
      have q1:=view_byte hc hk hx tx ux hz e hb
      have q2:=view_byte hc hk hy ty uy hz' h2 hb
      rw[h,q2] at q1
      cases hA:(ndAt ns z.toNat).set.has b<;>cases hB:(ndAt ns z'.toNat).set.has b<;>cases hC:decide (k=5)<;>rw[hA,hB,hC] at q1<;>first | rfl | cases q1))
    rw[this];exact hz'
  · exact (view_oth hc hk hy ty uy e).1 (by rw[←h];exact (view_oth hc hk hx tx ux e).2 hz)
theorem mem_inj {k:Int} (hk:k=4∨k=5):∀(n:Nat) (x y:Int),x.toNat≤n→isIn ns x→isIn ns y→mem ns k x=mem ns k y→x=y
  | n,x,y,hn,hx,hy,h=>by
    have two:∀z,isIn ns z→kd ns z=k→mem ns k z=ka ns z::mem ns k (kb ns z):=fun z hz e=>by
      rw[mem_node hc.fine hk hz e,mem_leaf (hc.join k hk z hz e).1];rfl
    by_cases ex:kd ns x=k
    · by_cases ey:kd ns y=k
      · rw[two x hx ex,two y hy ey] at h
        injection h with h1 h2
        obtain ⟨_,b0,b1⟩:=in_two hc.fine hx (by omega)
        obtain ⟨_,c0,c1⟩:=in_two hc.fine hy (by omega)
        have h0:=b0
        have h3:=hx
        unfold isIn at h0 h3
        cases n with
        | zero=>omega
        | succ n=>exact two_eq hc.fine hx hy (by omega) (by rw[ex,ey]) h1 (mem_inj hk n _ _ (by omega) b0 c0 h2)
      · rw[two x hx ex,mem_leaf ey] at h
        injection h with h1 h2
        obtain ⟨_,b0,b1⟩:=in_two hc.fine hx (by omega)
        obtain ⟨z,hz⟩:=mem_ne hc.fine hk b0
        rw[h2] at hz;cases hz
    · by_cases ey:kd ns y=k
      · rw[two y hy ey,mem_leaf ex] at h
        injection h with h1 h2
        obtain ⟨_,b0,b1⟩:=in_two hc.fine hy (by omega)
        obtain ⟨z,hz⟩:=mem_ne hc.fine hk b0
        rw[←h2] at hz;cases hz
      · rw[mem_leaf ex,mem_leaf ey] at h
        injection h
theorem view_inj {k x y:Int} (hk:k=4∨k=5) (hx:isIn ns x) (hy:isIn ns y) (h:∀a,view ns k x a=view ns k y a):x=y:=by
  have h0:=h .top
  rw[view_top,view_top] at h0
  cases tx:topB ns k x with
  | true=>rw[tx] at h0;exact top_eq hc hx hy tx h0.symm
  | false =>
    rw[tx] at h0
    have ty:=h0.symm
    have some_view:∀z,isIn ns z→topB ns k z=false→unitB ns k z=false→∃a,view ns k z a=true:=fun z hz tz uz=>by
      obtain ⟨m,hm⟩:=mem_ne hc.fine hk hz
      by_cases e:kd ns m=2
      · exact ⟨_,view_some hc hk hz tz hm e⟩
      · exact ⟨_,(view_oth hc hk hz tz uz e).2 hm⟩
    cases ux:unitB ns k x with
    | true =>
      cases uy:unitB ns k y with
      | true=>exact unit_eq hc hx hy ux uy
      | false =>
        obtain ⟨a,ha⟩:=some_view y hy ty uy
        rw[←h,view_unit hc hk hx ux] at ha;cases ha
    | false =>
      cases uy:unitB ns k y with
      | true =>
        obtain ⟨a,ha⟩:=some_view x hx tx ux
        rw[h,view_unit hc hk hy uy] at ha;cases ha
      | false =>
        exact mem_inj hc hk _ x y (Nat.le_refl _) hx hy (lt_ext (els hc hk hx tx ux).1 (els hc hk hy ty uy).1 (fun z=>⟨mem_sub hc hk hx hy tx ty ux uy h z,mem_sub hc hk hy hx ty tx uy ux (fun a=>(h a).symm) z⟩))
end
end Go.Proofs.YtgmpfnfomgadeaaGreat

/- The laws of what is put together: mathematics; no program is named. -/
set_option linter.unusedSectionVars false
set_option linter.unusedSimpArgs false
set_option linter.unusedVariables false
namespace Go.Proofs.YtgmpfnfomgadeaaGreat
open Go.RowKit
def Shuts (k:Int) (v:Atom→Bool):Prop:=v .top=true∨(k=5∧∀b,b<256→v (.byte b)=true)
def shutB (k:Int) (v:Atom→Bool):Bool:=v .top||(decide (k=5)&&(List.range 256).all (fun b=>v (.byte b)))
theorem shutB_iff {k:Int} {v:Atom→Bool}:shutB k v=true↔Shuts k v:=by
  unfold shutB Shuts
  rw[Bool.or_eq_true,Bool.and_eq_true,decide_eq_true_eq,List.all_eq_true]
  constructor
  · rintro (h | ⟨h1,h2⟩)
    · exact Or.inl h
    · exact Or.inr ⟨h1,fun b hb=>h2 b (List.mem_range.2 hb)⟩
  · rintro (h | ⟨h1,h2⟩)
    · exact Or.inl h
    · exact Or.inr ⟨h1,fun b hb=>h2 b (List.mem_range.1 hb)⟩
def clos (k:Int) (v:Atom→Bool) (a:Atom):Bool:=shutB k v||v a
theorem clos_yes {k:Int} {v:Atom→Bool} (h:Shuts k v) (a:Atom):clos k v a=true:=by unfold clos;rw[shutB_iff.2 h,Bool.true_or]
theorem clos_no {k:Int} {v:Atom→Bool} (h:¬Shuts k v) (a:Atom):clos k v a=v a:=by
  unfold clos
  have:shutB k v=false:=by
    cases e:shutB k v with
    | false=>rfl
    | true=>exact absurd (shutB_iff.1 e) h
  rw[this,Bool.false_or]
theorem clos_congr {k:Int} {v u:Atom→Bool} (h:∀a,v a=u a) (a:Atom):clos k v a=clos k u a:=by
  rw[show v=u from funext h]
def JoinR (ns:List Nd) (k:Int) (l:List Int) (r:Int):Prop:=isIn ns r∧∀a,view ns k r a=clos k (fun a=>l.any (fun x=>view ns k x a)) a
section
variable {ns:List Nd} (hc:Canon ns) {k:Int} (hk:k=4∨k=5)
include hc hk
theorem view_shut {x:Int} (hx:isIn ns x) (h:Shuts k (view ns k x)):topB ns k x=true:=by
  cases tx:topB ns k x with
  | true=>rfl
  | false =>
    rcases h with h | ⟨h5,h⟩
    · rw[view_top,tx] at h;cases h
    · cases ux:unitB ns k x with
      | true=>have:=h 0 (by omega);rw[view_unit hc hk hx ux] at this;cases this
      | false =>
        have h0:=h 0 (by omega)
        unfold view at h0
        rw[tx,Bool.false_or,List.any_eq_true] at h0
        obtain ⟨y,hy,hh⟩:=h0
        have hh:(decide (0<256)&&(decide (kd ns y=2)&&((ndAt ns y.toNat).set.has 0 != decide (k=5))))=true:=hh
        have h2:kd ns y=2:=by
          rw[Bool.and_eq_true,Bool.and_eq_true,decide_eq_true_eq,decide_eq_true_eq] at hh
          exact hh.2.1
        obtain ⟨b,hb,hs⟩:=hc.bytes y ((els hc hk hx tx ux).2.1 y hy).1 h2
        have:=h b hb
        rw[view_byte hc hk hx tx ux hy h2 hb,hs,decide_eq_true h5] at this
        cases this
theorem join_eq {l m:List Int} {r r':Int} (h:JoinR ns k l r) (h':JoinR ns k m r') (e:∀a,l.any (fun x=>view ns k x a)=m.any (fun x=>view ns k x a)):r=r' :=
  view_inj hc hk h.1 h'.1 (fun a=>by rw[h.2,h'.2];exact clos_congr e a)
end
section
variable {ns:List Nd} (hf:FineN ns) (more:List Nd)
include hf
theorem isNo_up {x:Int} (hx:isIn ns x):isNo (ns++more) x=isNo ns x:=by unfold isNo;rw[kd_up hx]
theorem isAl_up {x:Int} (hx:isIn ns x):isAl (ns++more) x=isAl ns x:=by
  unfold isAl
  rw[kd_up hx,ka_up hx]
  by_cases e:kd ns x=6
  · rw[kd_up (in_one hf hx (Or.inl e)).1]
  · rw[decide_eq_false e];rfl
theorem topB_up {k x:Int} (hx:isIn ns x):topB (ns++more) k x=topB ns k x:=by unfold topB;rw[isNo_up hf more hx,isAl_up hf more hx]
theorem unitB_up {k x:Int} (hx:isIn ns x):unitB (ns++more) k x=unitB ns k x:=by unfold unitB;rw[isNo_up hf more hx,isAl_up hf more hx]
theorem hit_up {k y:Int} (hy:isIn ns y) (a:Atom):hit (ns++more) k y a=hit ns k y a:=by
  cases a with
  | top=>rfl
  | oth z=>show (decide (y=z)&&(!decide (kd (ns++more) y=2)&&!unitB (ns++more) k y))=_;rw[kd_up hy,unitB_up hf more hy];rfl
  | some=>show decide (kd (ns++more) y=2)=_;rw[kd_up hy];rfl
  | byte b=>show (decide (b<256)&&(decide (kd (ns++more) y=2)&&((ndAt (ns++more) y.toNat).set.has b != decide (k=5))))=_;rw[kd_up hy,nd_up hy];rfl
theorem view_up {k x:Int} (hk:k=4∨k=5) (hx:isIn ns x) (a:Atom):view (ns++more) k x a=view ns k x a:=by
  unfold view
  rw[topB_up hf more hx,mem_up hf hk more _ x (Nat.le_refl _) hx]
  congr 1
  have:∀l:List Int,(∀y∈l,isIn ns y)→l.any (fun y=>hit (ns++more) k y a)=l.any (fun y=>hit ns k y a):=by
    intro l
    induction l with
    | nil=>intro _;rfl
    | cons y l ih=>intro h;rw[List.any_cons,List.any_cons,hit_up hf more (h y (by simp)),ih (fun z hz=>h z (List.mem_cons_of_mem _ hz))]
  exact this _ (fun y hy=>(mem_in hf hk _ x (Nat.le_refl _) hx y hy).1)
theorem JoinR.up {k:Int} {l:List Int} {r:Int} (hk:k=4∨k=5) (h:JoinR ns k l r) (hl:∀x∈l,isIn ns x):JoinR (ns++more) k l r :=
  ⟨h.1.up more,fun a=>by
    rw[view_up hf more hk h.1,h.2]
    refine clos_congr (fun a=>?_) a
    have:∀l:List Int,(∀y∈l,isIn ns y)→l.any (fun y=>view ns k y a)=l.any (fun y=>view (ns++more) k y a):=by
      intro l
      induction l with
      | nil=>intro _;rfl
      | cons y l ih=>intro h;rw[List.any_cons,List.any_cons,view_up hf more hk (h y (by simp)),ih (fun z hz=>h z (List.mem_cons_of_mem _ hz))]
    exact this l hl⟩
end
def catF (ns:List Nd):Nat→Int→Option (List Int)
  | 0,x=>some [x]
  | f+1,x=>if kd ns x=0 then none else if kd ns x=1 then some [] else if kd ns x=3 then (catF ns f (kb ns x)).map (ka ns x::·) else some [x]
def catV (ns:List Nd) (x:Int):Option (List Int):=catF ns (x.toNat+1) x
theorem catF_up {ns:List Nd} (hf:FineN ns) (more:List Nd):∀(f:Nat) (x:Int),isIn ns x→catF (ns++more) f x=catF ns f x
  | 0,_,_=>rfl
  | f+1,x,hx=>by
    unfold catF
    rw[kd_up hx,ka_up hx,kb_up hx]
    by_cases e:kd ns x=3
    · rw[catF_up hf more f _ (in_two hf hx (Or.inl e)).2.1]
    · rw[if_neg e,if_neg e]
theorem catV_up {ns:List Nd} (hf:FineN ns) (more:List Nd) {x:Int} (hx:isIn ns x):catV (ns++more) x=catV ns x:=catF_up hf more _ x hx
theorem catF_fuel {ns:List Nd} (hf:FineN ns):∀(f g:Nat) (x:Int),isIn ns x→x.toNat<f→x.toNat<g→catF ns f x=catF ns g x
  | 0,_,_,_,h,_=>absurd h (Nat.not_lt_zero _)
  | _+1,0,_,_,_,h=>absurd h (Nat.not_lt_zero _)
  | f+1,g+1,x,hx,h1,h2=>by
    unfold catF
    by_cases e:kd ns x=3
    · obtain ⟨_,b0,b1⟩:=in_two hf hx (Or.inl e)
      have h0:=b0
      have h3:=hx
      unfold isIn at h0 h3
      rw[catF_fuel hf f g _ b0 (by omega) (by omega)]
    · rw[if_neg e,if_neg e]
theorem cat_node {ns:List Nd} (hf:FineN ns) {x:Int} (hx:isIn ns x) (e:kd ns x=3):catV ns x=(catV ns (kb ns x)).map (ka ns x::·):=by
  obtain ⟨_,b0,b1⟩:=in_two hf hx (Or.inl e)
  have h0:=b0
  have h3:=hx
  unfold isIn at h0 h3
  rw[show catV ns x=(if kd ns x=0 then none else if kd ns x=1 then some [] else if kd ns x=3 then (catF ns x.toNat (kb ns x)).map (ka ns x::·) else some [x]) from rfl,if_neg (by omega),if_neg (by omega),if_pos e]
  unfold catV
  rw[catF_fuel hf _ _ _ b0 (show (kb ns x).toNat<x.toNat by omega) (Nat.lt_succ_self _)]
theorem cat_none {ns:List Nd} {x:Int} (e:kd ns x=0):catV ns x=none:=by
  show (if kd ns x=0 then none else _)=_
  rw[if_pos e]
theorem cat_empty {ns:List Nd} {x:Int} (e:kd ns x=1):catV ns x=some []:=by
  show (if kd ns x=0 then none else if kd ns x=1 then some [] else _)=_
  rw[if_neg (by omega),if_pos e]
theorem cat_leaf {ns:List Nd} {x:Int} (h0:kd ns x≠0) (h1:kd ns x≠1) (h3:kd ns x≠3):catV ns x=some [x]:=by
  show (if kd ns x=0 then none else if kd ns x=1 then some [] else if kd ns x=3 then _ else some [x])=_
  rw[if_neg h0,if_neg h1,if_neg h3]
def catJ (u v:Option (List Int)):Option (List Int):=match u,v with
  | some l,some m=>some (l++m)
  | _,_=>none
def CatR (ns:List Nd) (x y r:Int):Prop:=isIn ns r∧catV ns r=catJ (catV ns x) (catV ns y)
theorem CatR.up {ns:List Nd} (hf:FineN ns) (more:List Nd) {x y r:Int} (h:CatR ns x y r) (hx:isIn ns x) (hy:isIn ns y):CatR (ns++more) x y r :=
  ⟨h.1.up more,by rw[catV_up hf more h.1,catV_up hf more hx,catV_up hf more hy];exact h.2⟩
section
variable {ns:List Nd} (hc:Canon ns)
include hc
theorem cat_parts:∀(n:Nat) (x:Int),x.toNat≤n→isIn ns x→kd ns x≠0→kd ns x≠1→∃a l,catV ns x=some (a::l)
  | n,x,hn,hx,h0,h1=>by
    by_cases e:kd ns x=3
    · obtain ⟨_,b0,b1⟩:=in_two hc.fine hx (Or.inl e)
      have q0:=b0
      have q3:=hx
      unfold isIn at q0 q3
      obtain ⟨_,k0,k1⟩:=hc.cat x hx e
      cases n with
      | zero=>omega
      | succ n =>
        obtain ⟨a,l,hl⟩:=cat_parts n _ (by omega) b0 k0 k1
        exact ⟨ka ns x,a::l,by rw[cat_node hc.fine hx e,hl];rfl⟩
    · exact ⟨x,[],cat_leaf h0 h1 e⟩
theorem cat_inj:∀(n:Nat) (x y:Int),x.toNat≤n→isIn ns x→isIn ns y→catV ns x=catV ns y→x=y
  | n,x,y,hn,hx,hy,h=>by
    by_cases x0:kd ns x=0
    · by_cases y0:kd ns y=0
      · exact bare_eq hc.fine hx hy (Or.inl x0) (by rw[x0,y0])
      · rw[cat_none x0] at h
        by_cases y1:kd ns y=1
        · rw[cat_empty y1] at h;cases h
        · obtain ⟨a,l,hl⟩:=cat_parts hc _ y (Nat.le_refl _) hy y0 y1
          rw[hl] at h;cases h
    by_cases x1:kd ns x=1
    · by_cases y1:kd ns y=1
      · exact bare_eq hc.fine hx hy (Or.inr x1) (by rw[x1,y1])
      · rw[cat_empty x1] at h
        by_cases y0:kd ns y=0
        · rw[cat_none y0] at h;cases h
        · obtain ⟨a,l,hl⟩:=cat_parts hc _ y (Nat.le_refl _) hy y0 y1
          rw[hl] at h;cases h
    obtain ⟨a,l,hl⟩:=cat_parts hc _ x (Nat.le_refl _) hx x0 x1
    by_cases y0:kd ns y=0
    · rw[hl,cat_none y0] at h;cases h
    by_cases y1:kd ns y=1
    · rw[hl,cat_empty y1] at h;cases h
    by_cases x3:kd ns x=3
    · obtain ⟨_,b0,b1⟩:=in_two hc.fine hx (Or.inl x3)
      have q0:=b0
      have q3:=hx
      unfold isIn at q0 q3
      obtain ⟨_,k0,k1⟩:=hc.cat x hx x3
      obtain ⟨a',l',hl'⟩:=cat_parts hc _ _ (Nat.le_refl _) b0 k0 k1
      by_cases y3:kd ns y=3
      · obtain ⟨_,c0,c1⟩:=in_two hc.fine hy (Or.inl y3)
        obtain ⟨_,m0,m1⟩:=hc.cat y hy y3
        obtain ⟨a2,l2,hl2⟩:=cat_parts hc _ _ (Nat.le_refl _) c0 m0 m1
        rw[cat_node hc.fine hx x3,cat_node hc.fine hy y3,hl',hl2] at h
        injection h with h
        injection h with h1 h2
        cases n with
        | zero=>omega
        | succ n=>exact two_eq hc.fine hx hy (Or.inl x3) (by rw[x3,y3]) h1 (cat_inj n _ _ (by omega) b0 c0 (by rw[hl',hl2,h2]))
      · rw[cat_node hc.fine hx x3,hl',cat_leaf y0 y1 y3] at h
        injection h with h
        injection h with h1 h2
        cases h2
    · by_cases y3:kd ns y=3
      · obtain ⟨_,c0,c1⟩:=in_two hc.fine hy (Or.inl y3)
        obtain ⟨_,m0,m1⟩:=hc.cat y hy y3
        obtain ⟨a2,l2,hl2⟩:=cat_parts hc _ _ (Nat.le_refl _) c0 m0 m1
        rw[cat_leaf x0 x1 x3,cat_node hc.fine hy y3,hl2] at h
        injection h with h
        injection h with h1 h2
        cases h2
      · rw[cat_leaf x0 x1 x3,cat_leaf y0 y1 y3] at h
        injection h with h
        injection h
end
def NotR (ns:List Nd) (x r:Int):Prop:=isIn ns r∧(kd ns x=6→r=ka ns x)∧(kd ns x≠6→kd ns r=6∧ka ns r=x)
def StarR (ns:List Nd) (x r:Int):Prop:=isIn ns r∧(kd ns x=0∨kd ns x=1→kd ns r=1)∧(kd ns x=7→r=x)∧(kd ns x≠0→kd ns x≠1→kd ns x≠7→kd ns r=7∧ka ns r=x)
theorem NotR.up {ns:List Nd} {x r:Int} (h:NotR ns x r) (hx:isIn ns x) (more:List Nd):NotR (ns++more) x r :=
  ⟨h.1.up more,by rw[kd_up hx,ka_up hx];exact h.2.1,by rw[kd_up hx,kd_up h.1,ka_up h.1];exact h.2.2⟩
theorem StarR.up {ns:List Nd} {x r:Int} (h:StarR ns x r) (hx:isIn ns x) (more:List Nd):StarR (ns++more) x r :=
  ⟨h.1.up more,by rw[kd_up hx,kd_up h.1];exact h.2.1,by rw[kd_up hx];exact h.2.2.1,by rw[kd_up hx,kd_up h.1,ka_up h.1];exact h.2.2.2⟩
section
variable {ns:List Nd} (hc:Canon ns)
include hc
end
end Go.Proofs.YtgmpfnfomgadeaaGreat

/- What putting nodes together does, said of any way to read an arena out of the memory. -/
set_option linter.unusedVariables false
namespace Go.Proofs.YtgmpfnfomgadeaaGreat
open Go.RowKit
def ListAt (w:World) (v:Value) (l:List Int):Prop :=
  ∃A c,v=.slice A l.length c∧(0<l.length→∃b off,A=some ⟨b,off,none⟩∧b<w.heap.size∧∀(j:Nat) (h:j<l.length),w.cell? ⟨b,off+j,none⟩=some (.int .i64 l[j]))
def Grows (AA:World→Value→List Nd→(Nat→Prop)→Prop) (w:World) (a:Value) (ns:List Nd) (F:Nat→Prop) (R:List Nd→Int→Prop) (e:Ending) (w':World):Prop :=
  ∃(r:Int) (more:List Nd) (F':Nat→Prop),e=.returned (.int .i64 r)∧AA w' a (ns++more) F'∧(∀b,F' b→F b∨w.heap.size≤b)∧OffF F w w'∧Canon (ns++more)∧isIn (ns++more) r∧R more r
def catN (ns:List Nd) (x:Int):Nat:=((catV ns x).getD []).length
def memN (ns:List Nd) (k:Int) (l:List Int):Nat:=(l.map (fun x=>(mem ns k x).length)).sum
theorem canon_nil:Canon [] where
  fine:=⟨fun j hj=>absurd hj (Nat.not_lt_zero _),fun i j hi=>absurd hi (Nat.not_lt_zero _)⟩
  cat:=fun x hx=>by unfold isIn at hx;simp at hx;omega
  join:=fun k _ x hx=>by unfold isIn at hx;simp at hx;omega
  not:=fun x hx=>by unfold isIn at hx;simp at hx;omega
  star:=fun x hx=>by unfold isIn at hx;simp at hx;omega
  bytes:=fun x hx=>by unfold isIn at hx;simp at hx;omega
end Go.Proofs.YtgmpfnfomgadeaaGreat
