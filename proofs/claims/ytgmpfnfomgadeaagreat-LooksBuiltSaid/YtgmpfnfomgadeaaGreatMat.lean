/- Joined: NormTable, NormNull. -/
import Derived.Test.YtgmpfnfomgadeaaGreatMaf
/- What putting nodes together matches: mathematics; no program is named. -/
set_option linter.unusedSectionVars false
set_option linter.unusedSimpArgs false
set_option linter.unusedVariables false
namespace Go.Proofs.YtgmpfnfomgadeaaGreat
open Go.RowKit
inductive Ways (f:Tbl) (n i:Nat):Nat→Prop
  | here:Ways f n i i
  | step {m j:Nat}:Ways f n i m→m<n→i≤m→m≤j→f m j=true→Ways f n i j
theorem Ways.le {f:Tbl} {n i j:Nat} (h:Ways f n i j):i≤j:=by
  cases h with
  | here=>exact Nat.le_refl _
  | step _ _ h1 h2 _=>omega
theorem any_ways {f:Tbl} {n i:Nat}:∀(m j:Nat),anyTo f n m i j=true→Ways f n i j
  | 0,j,h=>by
    obtain rfl:=(eqF_iff _ _).1 h
    exact .here
  | m+1,j,h=>by
    have h:(anyTo f n m i j||thenF (anyTo f n m) f n i j)=true:=h
    rw[Bool.or_eq_true] at h
    rcases h with h | h
    · exact any_ways m j h
    · obtain ⟨q,q0,q1,q2,q3,q4⟩:=(then_iff _ _ _ _ _).1 h
      exact .step (any_ways m q q3) q0 q1 q2 q4
theorem any_self (f:Tbl) (n i:Nat):∀m,anyTo f n m i i=true
  | 0=>(eqF_iff _ _).2 rfl
  | m+1=>by show (anyTo f n m i i||_)=true;rw[any_self f n i m,Bool.true_or]
theorem ways_any {f:Tbl} {n i j:Nat} (h:Ways f n i j):∀m,j≤i+m→anyTo f n m i j=true:=by
  induction h with
  | here=>exact fun m _=>any_self f n i m
  | @step q j hw h0 h1 h2 h3 ih =>
    intro m hm
    by_cases e:q=j
    · subst e;exact ih m hm
    · cases m with
      | zero=>omega
      | succ m =>
        show (anyTo f n m i j||thenF (anyTo f n m) f n i j)=true
        rw[Bool.or_eq_true]
        exact Or.inr ((then_iff _ _ _ _ _).2 ⟨q,h0,h1,h2,ih m (by omega),h3⟩)
theorem any_iff {f:Tbl} {n i j:Nat} (hj:j<n):anyTo f n n i j=true↔Ways f n i j:=⟨any_ways n j,fun h=>ways_any h n (by omega)⟩
theorem Ways.trans {f:Tbl} {n i j k:Nat} (h:Ways f n i j) (h':Ways f n j k):Ways f n i k:=by
  induction h' with
  | here=>exact h
  | step hw h0 h1 h2 h3 ih =>
    exact .step ih h0 ih.le h2 h3
theorem any_any (f:Tbl) (n:Nat):Eqv n (anyTo (anyTo f n n) n n) (anyTo f n n):=fun i j hi hj=>bool_iff (by
  rw[any_iff hj,any_iff hj]
  constructor
  · intro h
    have:∀{i j:Nat},Ways (anyTo f n n) n i j→j<n→Ways f n i j:=by
      intro i j h
      induction h with
      | here=>exact fun _=>.here
      | step hw h0 h1 h2 h3 ih=>exact fun hj=>(ih h0).trans ((any_iff hj).1 h3)
    exact this h hj
  · intro h
    have:∀{i j:Nat},Ways f n i j→j<n→Ways (anyTo f n n) n i j:=by
      intro i j h
      induction h with
      | here=>exact fun _=>.here
      | @step q j hw h0 h1 h2 h3 ih=>exact fun hj=>.step (ih h0) h0 h1 h2 ((any_iff hj).2 (.step .here h0 (Nat.le_refl _) h2 h3))
    exact this h hj)
theorem any_of_none {f:Tbl} {n:Nat} (h:∀i j,i<n→j<n→f i j=true→i=j):Eqv n (anyTo f n n) eqF:=fun i j hi hj=>bool_iff (by
  rw[any_iff hj,eqF_iff]
  constructor
  · intro hw
    have:∀{i j:Nat},Ways f n i j→j<n→i=j:=by
      intro i j hw
      induction hw with
      | here=>exact fun _=>rfl
      | step hw h0 h1 h2 h3 ih=>exact fun hj=>(ih h0).trans (h _ _ h0 hj h3)
    exact this hw hj
  · rintro rfl;exact .here)
theorem any_le {f:Tbl} {n i j:Nat} (m:Nat) (h:anyTo f n m i j=true):i≤j:=(any_ways m j h).le
section
variable (l bits:List Nat) {ns:List Nd} (hf:FineN ns)
theorem T_eq {x:Int} (hf:FineN ns) (hx:isIn ns x):nodeT l bits ns x=nodeF l bits (nodesF l bits ns ns.length) (ndAt ns x.toNat):=by
  obtain ⟨j,rfl⟩:∃j:Nat,x=(j:Int):=⟨x.toNat,by unfold isIn at hx;omega⟩
  exact nodeT_eq l bits ns (fun j hj=>hf.ok j hj) j (by unfold isIn at hx;omega)
section
variable {l bits}
theorem T_no {x:Int} (hf:FineN ns) (hx:isIn ns x) (k:kd ns x=0):nodeT l bits ns x=noF:=by
  rw[T_eq l bits hf hx];unfold nodeF;unfold kd at k
  rw[if_neg (by omega),if_neg (by omega),if_neg (by omega),if_neg (by omega),if_neg (by omega),if_neg (by omega),if_neg (by omega),if_neg (by omega)]
theorem T_em {x:Int} (hf:FineN ns) (hx:isIn ns x) (k:kd ns x=1):nodeT l bits ns x=eqF:=by
  rw[T_eq l bits hf hx];unfold nodeF;unfold kd at k;rw[if_pos k]
theorem T_bytes {x:Int} (hf:FineN ns) (hx:isIn ns x) (k:kd ns x=2):nodeT l bits ns x=byteF (ndAt ns x.toNat).set l:=by
  rw[T_eq l bits hf hx];unfold nodeF;unfold kd at k;rw[if_neg (by omega),if_pos k]
theorem T_cat {x:Int} (hf:FineN ns) (hx:isIn ns x) (k:kd ns x=3):nodeT l bits ns x=thenF (nodeT l bits ns (ka ns x)) (nodeT l bits ns (kb ns x)) (l.length+1):=by
  rw[T_eq l bits hf hx];unfold nodeF;unfold kd at k;rw[if_neg (by omega),if_neg (by omega),if_pos k];rfl
theorem T_or {x:Int} (hf:FineN ns) (hx:isIn ns x) (k:kd ns x=4):nodeT l bits ns x=fun i j=>nodeT l bits ns (ka ns x) i j||nodeT l bits ns (kb ns x) i j:=by
  rw[T_eq l bits hf hx];unfold nodeF;unfold kd at k;rw[if_neg (by omega),if_neg (by omega),if_neg (by omega),if_pos k];rfl
theorem T_and {x:Int} (hf:FineN ns) (hx:isIn ns x) (k:kd ns x=5):nodeT l bits ns x=fun i j=>nodeT l bits ns (ka ns x) i j&&nodeT l bits ns (kb ns x) i j:=by
  rw[T_eq l bits hf hx];unfold nodeF;unfold kd at k;rw[if_neg (by omega),if_neg (by omega),if_neg (by omega),if_neg (by omega),if_pos k];rfl
theorem T_not {x:Int} (hf:FineN ns) (hx:isIn ns x) (k:kd ns x=6):nodeT l bits ns x=otherF (nodeT l bits ns (ka ns x)):=by
  rw[T_eq l bits hf hx];unfold nodeF;unfold kd at k;rw[if_neg (by omega),if_neg (by omega),if_neg (by omega),if_neg (by omega),if_neg (by omega),if_pos k];rfl
theorem T_star {x:Int} (hf:FineN ns) (hx:isIn ns x) (k:kd ns x=7):nodeT l bits ns x=anyTo (nodeT l bits ns (ka ns x)) (l.length+1) (l.length+1):=by
  rw[T_eq l bits hf hx];unfold nodeF;unfold kd at k;rw[if_neg (by omega),if_neg (by omega),if_neg (by omega),if_neg (by omega),if_neg (by omega),if_neg (by omega),if_pos k];rfl
theorem T_look {x:Int} (hf:FineN ns) (hx:isIn ns x) (k:kd ns x=8):nodeT l bits ns x=bitF bits (ka ns x).toNat (ndAt ns x.toNat).neg:=by
  rw[T_eq l bits hf hx];unfold nodeF;unfold kd at k;rw[if_neg (by omega),if_neg (by omega),if_neg (by omega),if_neg (by omega),if_neg (by omega),if_neg (by omega),if_neg (by omega),if_pos k];rfl
theorem slimT (hf:FineN ns):∀(n:Nat) (x:Int),x.toNat≤n→isIn ns x→∀i j,nodeT l bits ns x i j=true→i≤j
  | n,x,hn,hx,i,j,h=>by
    have hx':=hx
    unfold isIn at hx'
    have two:kd ns x=3∨kd ns x=4∨kd ns x=5→n≠0:=fun k=>by
      obtain ⟨⟨a0,a1⟩,_⟩:=in_two hf hx k
      unfold isIn at a0
      omega
    rcases kind_in hf hx with k | k | k | k | k | k | k | k | k
    · rw[T_no hf hx k] at h;cases h
    · rw[T_em hf hx k] at h;have:=(eqF_iff _ _).1 h;omega
    · rw[T_bytes hf hx k] at h
      unfold byteF at h
      rw[Bool.and_eq_true,decide_eq_true_eq] at h
      omega
    · rw[T_cat hf hx k] at h
      obtain ⟨q,q0,q1,q2,_⟩:=(then_iff _ _ _ _ _).1 h
      omega
    · rw[T_or hf hx k] at h
      obtain ⟨⟨a0,a1⟩,b0,b1⟩:=in_two hf hx (by omega)
      have h0:=a0
      have h1:=b0
      unfold isIn at h0 h1
      cases n with
      | zero=>exact absurd rfl (two (by omega))
      | succ n =>
        rw[Bool.or_eq_true] at h
        rcases h with h | h
        · exact slimT hf n _ (by omega) a0 i j h
        · exact slimT hf n _ (by omega) b0 i j h
    · rw[T_and hf hx k] at h
      obtain ⟨⟨a0,a1⟩,b0,b1⟩:=in_two hf hx (by omega)
      have h0:=a0
      unfold isIn at h0
      cases n with
      | zero=>exact absurd rfl (two (by omega))
      | succ n =>
        rw[Bool.and_eq_true] at h
        exact slimT hf n _ (by omega) a0 i j h.1
    · rw[T_not hf hx k] at h
      unfold otherF at h
      rw[Bool.and_eq_true,decide_eq_true_eq] at h
      exact h.1
    · rw[T_star hf hx k] at h
      exact any_le _ h
    · rw[T_look hf hx k] at h
      unfold bitF at h
      rw[Bool.and_eq_true,decide_eq_true_eq] at h
      omega
theorem or_table (hf:FineN ns):∀(n:Nat) (x:Int),x.toNat≤n→isIn ns x→∀i j,nodeT l bits ns x i j=(mem ns 4 x).any (fun y=>nodeT l bits ns y i j)
  | n,x,hn,hx,i,j=>by
    by_cases e:kd ns x=4
    · obtain ⟨⟨a0,a1⟩,b0,b1⟩:=in_two hf hx (by omega)
      have h0:=a0
      have h1:=b0
      have h2:=hx
      unfold isIn at h0 h1 h2
      cases n with
      | zero=>omega
      | succ n =>
        rw[mem_node hf (Or.inl rfl) hx e,List.any_append,←or_table hf n _ (by omega) a0,←or_table hf n _ (by omega) b0,T_or hf hx e]
    · rw[mem_leaf e,List.any_cons,List.any_nil,Bool.or_false]
theorem and_table (hf:FineN ns):∀(n:Nat) (x:Int),x.toNat≤n→isIn ns x→∀i j,nodeT l bits ns x i j=(mem ns 5 x).all (fun y=>nodeT l bits ns y i j)
  | n,x,hn,hx,i,j=>by
    by_cases e:kd ns x=5
    · obtain ⟨⟨a0,a1⟩,b0,b1⟩:=in_two hf hx (by omega)
      have h0:=a0
      have h1:=b0
      have h2:=hx
      unfold isIn at h0 h1 h2
      cases n with
      | zero=>omega
      | succ n =>
        rw[mem_node hf (Or.inr rfl) hx e,List.all_append,←and_table hf n _ (by omega) a0,←and_table hf n _ (by omega) b0,T_and hf hx e]
    · rw[mem_leaf e,List.all_cons,List.all_nil,Bool.and_true]
theorem T_al (hf:FineN ns) {x:Int} (hx:isIn ns x) (h:isAl ns x=true) (i j:Nat):nodeT l bits ns x i j=decide (i≤j):=by
  unfold isAl at h
  rw[Bool.and_eq_true,decide_eq_true_eq,decide_eq_true_eq] at h
  rw[T_not hf hx h.1,T_no hf (in_one hf hx (Or.inl h.1)).1 h.2]
  unfold otherF noF
  rw[Bool.not_false,Bool.and_true]
end
def atB (l:List Nat) (b i j:Nat):Bool:=decide (j=i+1∧i<l.length)&&decide ((l[i]?).getD 0=b)
def at4 (ns:List Nd) (i j:Nat):Atom→Bool
  | .top=>decide (i≤j)
  | .oth y=>decide (0≤y∧y<ns.length)&&nodeT l bits ns y i j
  | .some=>false
  | .byte b=>atB l b i j
def at5 (ns:List Nd) (i j:Nat):Atom→Bool
  | .top=>false
  | .oth y=>nodeT l bits ns y i j
  | .some=>decide (j=i+1∧i<l.length)
  | .byte b=>!atB l b i j
section
variable {l bits}
variable (hc:Canon ns) (hl:∀b∈l,b<256)
include hc hl
omit hl in
theorem at4_le {a:Atom} {i j:Nat} (h:at4 l bits ns i j a=true):i≤j:=by
  cases a with
  | top=>exact of_decide_eq_true h
  | oth y =>
    have h:(decide (0≤y∧y<ns.length)&&nodeT l bits ns y i j)=true:=h
    rw[Bool.and_eq_true,decide_eq_true_eq] at h
    exact slimT hc.fine _ y (Nat.le_refl _) h.1 i j h.2
  | some=>cases h
  | byte b =>
    have h:(decide (j=i+1∧i<l.length)&&_)=true:=h
    rw[Bool.and_eq_true,decide_eq_true_eq] at h
    omega
omit hc in
theorem at_lt {i:Nat} (h:i<l.length):(l[i]?).getD 0<256:=by
  rw[List.getElem?_eq_getElem h]
  exact hl _ (List.getElem_mem h)
theorem view4 {x:Int} (hx:isIn ns x) (i j:Nat):nodeT l bits ns x i j=true↔∃a,view ns 4 x a=true∧at4 l bits ns i j a=true:=by
  cases tx:topB ns 4 x with
  | true =>
    rw[T_al hc.fine hx tx,decide_eq_true_eq]
    constructor
    · intro h
      exact ⟨.top,by rw[view_top,tx],decide_eq_true h⟩
    · rintro ⟨a,_,h⟩
      exact at4_le hc h
  | false =>
    cases ux:unitB ns 4 x with
    | true =>
      rw[T_no hc.fine hx (of_decide_eq_true ux)]
      constructor
      · intro h;cases h
      · rintro ⟨a,h,_⟩
        rw[view_unit hc (Or.inl rfl) hx ux] at h;cases h
    | false =>
      obtain ⟨_,hm,_⟩:=els hc (Or.inl rfl) hx tx ux
      rw[or_table hc.fine _ x (Nat.le_refl _) hx,List.any_eq_true]
      constructor
      · rintro ⟨y,hy,h⟩
        have hyi:=(hm y hy).1
        by_cases e:kd ns y=2
        · rw[T_bytes hc.fine hyi e] at h
          unfold byteF at h
          rw[Bool.and_eq_true,decide_eq_true_eq] at h
          refine ⟨.byte ((l[i]?).getD 0),?_,?_⟩
          · rw[view_byte hc (Or.inl rfl) hx tx ux hy e (at_lt hl h.1.2),h.2];rfl
          · show (decide (j=i+1∧i<l.length)&&decide ((l[i]?).getD 0=(l[i]?).getD 0))=true
            rw[decide_eq_true h.1,decide_eq_true rfl];rfl
        · refine ⟨.oth y,(view_oth hc (Or.inl rfl) hx tx ux e).2 hy,?_⟩
          show (decide (0≤y∧y<ns.length)&&nodeT l bits ns y i j)=true
          rw[h,decide_eq_true (show 0≤y∧y<(ns.length:Int) from hyi)];rfl
      · rintro ⟨a,hv,ha⟩
        unfold view at hv
        rw[tx,Bool.false_or,List.any_eq_true] at hv
        obtain ⟨y,hy,hh⟩:=hv
        refine ⟨y,hy,?_⟩
        cases a with
        | top=>cases hh
        | oth z =>
          have hh:(decide (y=z)&&_)=true:=hh
          rw[Bool.and_eq_true,decide_eq_true_eq] at hh
          have ha:(decide (0≤z∧z<ns.length)&&nodeT l bits ns z i j)=true:=ha
          rw[Bool.and_eq_true] at ha
          rw[hh.1];exact ha.2
        | some=>cases ha
        | byte b =>
          have hh:(decide (b<256)&&(decide (kd ns y=2)&&((ndAt ns y.toNat).set.has b != decide ((4:Int)=5))))=true:=hh
          rw[Bool.and_eq_true,Bool.and_eq_true,decide_eq_true_eq,decide_eq_true_eq] at hh
          have ha:(decide (j=i+1∧i<l.length)&&decide ((l[i]?).getD 0=b))=true:=ha
          rw[Bool.and_eq_true,decide_eq_true_eq,decide_eq_true_eq] at ha
          rw[T_bytes hc.fine (hm y hy).1 hh.2.1]
          unfold byteF
          rw[decide_eq_true ha.1,Bool.true_and,ha.2]
          have:=hh.2.2
          rw[decide_eq_false (by decide:¬(4:Int)=5)] at this
          cases hq:(ndAt ns y.toNat).set.has b with
          | true=>rfl
          | false=>rw[hq] at this;cases this
theorem join4_table {ls:List Int} {r:Int} (hls:∀x∈ls,isIn ns x) (h:JoinR ns 4 ls r) (i j:Nat):nodeT l bits ns r i j=ls.any (fun x=>nodeT l bits ns x i j):=bool_iff (by
  rw[view4 hc hl h.1,List.any_eq_true]
  by_cases hs:Shuts 4 (fun a=>ls.any (fun x=>view ns 4 x a))
  · have ht:∃x∈ls,topB ns 4 x=true:=by
      rcases hs with hs | ⟨h5,_⟩
      · rw[List.any_eq_true] at hs
        obtain ⟨x,hx,hv⟩:=hs
        rw[view_top] at hv
        exact ⟨x,hx,hv⟩
      · omega
    obtain ⟨x,hx,hv⟩:=ht
    constructor
    · rintro ⟨a,_,ha⟩
      exact ⟨x,hx,by rw[T_al hc.fine (hls x hx) hv];exact decide_eq_true (at4_le hc ha)⟩
    · rintro ⟨y,hy,hT⟩
      exact ⟨.top,by rw[h.2,clos_yes hs],decide_eq_true (slimT hc.fine _ y (Nat.le_refl _) (hls y hy) i j hT)⟩
  · constructor
    · rintro ⟨a,hv,ha⟩
      rw[h.2,clos_no hs,List.any_eq_true] at hv
      obtain ⟨x,hx,hv⟩:=hv
      exact ⟨x,hx,(view4 hc hl (hls x hx) i j).2 ⟨a,hv,ha⟩⟩
    · rintro ⟨x,hx,hT⟩
      obtain ⟨a,hv,ha⟩:=(view4 hc hl (hls x hx) i j).1 hT
      exact ⟨a,by rw[h.2,clos_no hs,List.any_eq_true];exact ⟨x,hx,hv⟩,ha⟩)
theorem view5 {x:Int} (hx:isIn ns x) (i j:Nat):nodeT l bits ns x i j=true↔i≤j∧∀a,view ns 5 x a=true→at5 l bits ns i j a=true:=by
  cases tx:topB ns 5 x with
  | true =>
    rw[T_no hc.fine hx (of_decide_eq_true tx)]
    constructor
    · intro h;cases h
    · rintro ⟨_,h⟩
      have:=h .top (by rw[view_top,tx])
      cases this
  | false =>
    cases ux:unitB ns 5 x with
    | true =>
      rw[T_al hc.fine hx ux,decide_eq_true_eq]
      exact ⟨fun h=>⟨h,fun a ha=>by rw[view_unit hc (Or.inr rfl) hx ux] at ha;cases ha⟩,fun h=>h.1⟩
    | false =>
      obtain ⟨_,hm,_⟩:=els hc (Or.inr rfl) hx tx ux
      rw[and_table hc.fine _ x (Nat.le_refl _) hx,List.all_eq_true]
      constructor
      · intro hall
        refine ⟨?_,fun a hv=>?_⟩
        · obtain ⟨y,hy⟩:=mem_ne hc.fine (k:=5) (Or.inr rfl) hx
          exact slimT hc.fine _ y (Nat.le_refl _) (hm y hy).1 i j (hall y hy)
        · unfold view at hv
          rw[tx,Bool.false_or,List.any_eq_true] at hv
          obtain ⟨y,hy,hh⟩:=hv
          have hT:=hall y hy
          cases a with
          | top=>cases hh
          | oth z =>
            have hh:(decide (y=z)&&_)=true:=hh
            rw[Bool.and_eq_true,decide_eq_true_eq] at hh
            show nodeT l bits ns z i j=true
            rw[←hh.1];exact hT
          | some =>
            have hh:kd ns y=2:=of_decide_eq_true hh
            rw[T_bytes hc.fine (hm y hy).1 hh] at hT
            unfold byteF at hT
            rw[Bool.and_eq_true] at hT
            exact hT.1
          | byte b =>
            have hh:(decide (b<256)&&(decide (kd ns y=2)&&((ndAt ns y.toNat).set.has b != decide ((5:Int)=5))))=true:=hh
            rw[Bool.and_eq_true,Bool.and_eq_true,decide_eq_true_eq,decide_eq_true_eq] at hh
            rw[T_bytes hc.fine (hm y hy).1 hh.2.1] at hT
            unfold byteF at hT
            rw[Bool.and_eq_true] at hT
            show (!(decide (j=i+1∧i<l.length)&&decide ((l[i]?).getD 0=b)))=true
            rw[hT.1,Bool.true_and]
            have h3:=hh.2.2
            rw[decide_eq_true rfl] at h3
            by_cases e:(l[i]?).getD 0=b
            · rw[←e,hT.2] at h3;cases h3
            · rw[decide_eq_false e];rfl
      · rintro ⟨hij,hall⟩ y hy
        have hyi:=(hm y hy).1
        by_cases e:kd ns y=2
        · have h1:=hall .some (view_some hc (Or.inr rfl) hx tx hy e)
          have h1:j=i+1∧i<l.length:=of_decide_eq_true h1
          rw[T_bytes hc.fine hyi e]
          unfold byteF
          rw[decide_eq_true h1,Bool.true_and]
          cases hq:(ndAt ns y.toNat).set.has ((l[i]?).getD 0) with
          | true=>rfl
          | false =>
            have hv:=view_byte hc (Or.inr rfl) hx tx ux hy e (at_lt hl h1.2)
            rw[hq,decide_eq_true rfl] at hv
            have:=hall (.byte ((l[i]?).getD 0)) hv
            have this:(!(decide (j=i+1∧i<l.length)&&decide ((l[i]?).getD 0=(l[i]?).getD 0)))=true:=this
            rw[decide_eq_true h1,decide_eq_true rfl] at this
            cases this
        · exact hall (.oth y) ((view_oth hc (Or.inr rfl) hx tx ux e).2 hy)
theorem join5_table {ls:List Int} {r:Int} (hls:∀x∈ls,isIn ns x) (h:JoinR ns 5 ls r) (i j:Nat):nodeT l bits ns r i j=(decide (i≤j)&&ls.all (fun x=>nodeT l bits ns x i j)):=bool_iff (by
  rw[view5 hc hl h.1,Bool.and_eq_true,decide_eq_true_eq,List.all_eq_true]
  by_cases hs:Shuts 5 (fun a=>ls.any (fun x=>view ns 5 x a))
  · constructor
    · rintro ⟨_,ha⟩
      have:=ha .top (by rw[h.2,clos_yes hs])
      cases this
    · rintro ⟨hij,hall⟩
      exfalso
      have hT:∀x∈ls,∀a,view ns 5 x a=true→at5 l bits ns i j a=true:=fun x hx=>((view5 hc hl (hls x hx) i j).1 (hall x hx)).2
      rcases hs with hs | ⟨_,hs⟩
      · rw[List.any_eq_true] at hs
        obtain ⟨x,hx,hv⟩:=hs
        have:=hT x hx .top hv
        cases this
      · have h0:=hs 0 (by omega)
        rw[List.any_eq_true] at h0
        obtain ⟨x,hx,hv⟩:=h0
        have htx:topB ns 5 x=false:=by
          cases q:topB ns 5 x with
          | false=>rfl
          | true=>have:=hT x hx .top (by rw[view_top,q]);cases this
        have hsm:view ns 5 x .some=true:=by
          unfold view at hv
          rw[htx,Bool.false_or,List.any_eq_true] at hv
          obtain ⟨y,hy,hh⟩:=hv
          have hh:(decide (0<256)&&(decide (kd ns y=2)&&((ndAt ns y.toNat).set.has 0 != decide ((5:Int)=5))))=true:=hh
          rw[Bool.and_eq_true,Bool.and_eq_true,decide_eq_true_eq,decide_eq_true_eq] at hh
          exact view_some hc (Or.inr rfl) (hls x hx) htx hy hh.2.1
        have h1:j=i+1∧i<l.length:=of_decide_eq_true (hT x hx .some hsm)
        have hb:=hs ((l[i]?).getD 0) (at_lt hl h1.2)
        rw[List.any_eq_true] at hb
        obtain ⟨y,hy,hv2⟩:=hb
        have:=hT y hy _ hv2
        have this:(!(decide (j=i+1∧i<l.length)&&decide ((l[i]?).getD 0=(l[i]?).getD 0)))=true:=this
        rw[decide_eq_true h1,decide_eq_true rfl] at this
        cases this
  · constructor
    · rintro ⟨hij,ha⟩
      refine ⟨hij,fun x hx=>(view5 hc hl (hls x hx) i j).2 ⟨hij,fun a hv=>ha a ?_⟩⟩
      rw[h.2,clos_no hs,List.any_eq_true]
      exact ⟨x,hx,hv⟩
    · rintro ⟨hij,hall⟩
      refine ⟨hij,fun a hv=>?_⟩
      rw[h.2,clos_no hs,List.any_eq_true] at hv
      obtain ⟨x,hx,hv⟩:=hv
      exact ((view5 hc hl (hls x hx) i j).1 (hall x hx)).2 a hv)
end
section
variable {l bits}
def catT (l bits:List Nat) (ns:List Nd):Option (List Int)→Tbl
  | none=>noF
  | some ps=>ps.foldr (fun p g=>thenF (nodeT l bits ns p) g (l.length+1)) eqF
theorem eq_then {n:Nat} {f:Tbl} (hs:∀i j,f i j=true→i≤j):Eqv n (thenF eqF f n) f:=fun i j hi hj=>bool_iff (by
  rw[then_iff]
  constructor
  · rintro ⟨m,m0,m1,m2,m3,m4⟩
    obtain rfl:=(eqF_iff _ _).1 m3
    exact m4
  · intro h
    exact ⟨i,hi,Nat.le_refl _,hs i j h,(eqF_iff _ _).2 rfl,h⟩)
theorem then_slim {n:Nat} {f g:Tbl} {i j:Nat} (h:thenF f g n i j=true):i≤j:=by
  obtain ⟨m,_,m1,m2,_⟩:=(then_iff _ _ _ _ _).1 h
  omega
theorem catT_slim:∀(ps:Option (List Int)) (i j:Nat),catT l bits ns ps i j=true→i≤j
  | none,_,_,h=>by cases h
  | some [],i,j,h=>by have:=(eqF_iff _ _).1 h;omega
  | some (p::ps),i,j,h=>then_slim h
theorem catT_app (n:Nat) (hn:n=l.length+1):∀(ps qs:List Int),Eqv n (catT l bits ns (some (ps++qs))) (thenF (catT l bits ns (some ps)) (catT l bits ns (some qs)) n)
  | [],qs=>by
    subst hn
    exact (eq_then (catT_slim (some qs))).symm
  | p::ps,qs=>by
    subst hn
    show Eqv _ (thenF (nodeT l bits ns p) (catT l bits ns (some (ps++qs))) (l.length+1)) (thenF (thenF (nodeT l bits ns p) (catT l bits ns (some ps)) (l.length+1)) (catT l bits ns (some qs)) (l.length+1))
    exact (then_congr (Eqv.refl _ _) (catT_app _ rfl ps qs)).trans (then_assoc _ _ _ _).symm
theorem none_then {n:Nat} {f g:Tbl} (h:f=noF∨g=noF):Eqv n (thenF f g n) noF:=fun i j hi hj=>bool_iff (by
  rw[then_iff]
  constructor
  · rintro ⟨m,_,_,_,m3,m4⟩
    rcases h with rfl | rfl
    · cases m3
    · cases m4
  · intro h;cases h)
theorem catJ_table (u v:Option (List Int)):Eqv (l.length+1) (catT l bits ns (catJ u v)) (thenF (catT l bits ns u) (catT l bits ns v) (l.length+1)):=by
  cases u with
  | none=>exact (none_then (Or.inl rfl)).symm
  | some ps =>
    cases v with
    | none=>exact (none_then (Or.inr rfl)).symm
    | some qs=>exact catT_app _ rfl ps qs
theorem cat_table (hf:FineN ns):∀(n:Nat) (x:Int),x.toNat≤n→isIn ns x→Eqv (l.length+1) (nodeT l bits ns x) (catT l bits ns (catV ns x))
  | n,x,hn,hx=>by
    by_cases k0:kd ns x=0
    · rw[T_no hf hx k0,cat_none k0];exact Eqv.refl _ _
    by_cases k1:kd ns x=1
    · rw[T_em hf hx k1,cat_empty k1];exact Eqv.refl _ _
    by_cases k3:kd ns x=3
    · obtain ⟨⟨a0,a1⟩,b0,b1⟩:=in_two hf hx (Or.inl k3)
      have h0:=b0
      have h2:=hx
      unfold isIn at h0 h2
      cases n with
      | zero=>omega
      | succ n =>
        have ih:=cat_table hf n _ (by omega) b0
        rw[T_cat hf hx k3,cat_node hf hx k3]
        cases hcb:catV ns (kb ns x) with
        | none =>
          rw[hcb] at ih
          exact (then_congr (Eqv.refl _ _) ih).trans (none_then (Or.inr rfl))
        | some ps =>
          rw[hcb] at ih
          exact then_congr (Eqv.refl _ _) ih
    · rw[cat_leaf k0 k1 k3]
      have e:Eqv (l.length+1) (thenF (nodeT l bits ns x) eqF (l.length+1)) (nodeT l bits ns x):=(eq_then_swap (l.length+1) (nodeT l bits ns x)).symm.trans (eq_then (slimT hf _ x (Nat.le_refl _) hx))
      exact e.symm
theorem catR_table (hf:FineN ns) {x y r:Int} (hx:isIn ns x) (hy:isIn ns y) (h:CatR ns x y r):Eqv (l.length+1) (nodeT l bits ns r) (thenF (nodeT l bits ns x) (nodeT l bits ns y) (l.length+1)):=by
  refine (cat_table hf _ r (Nat.le_refl _) h.1).trans ?_
  rw[h.2]
  exact (catJ_table _ _).trans (then_congr (cat_table hf _ x (Nat.le_refl _) hx).symm (cat_table hf _ y (Nat.le_refl _) hy).symm)
theorem notR_table (hf:FineN ns) {x r:Int} (hx:isIn ns x) (h:NotR ns x r) (i j:Nat):nodeT l bits ns r i j=otherF (nodeT l bits ns x) i j:=by
  by_cases e:kd ns x=6
  · rw[h.2.1 e,T_not hf hx e]
    have ha:=(in_one hf hx (Or.inl e)).1
    unfold otherF
    cases hT:nodeT l bits ns (ka ns x) i j with
    | true=>rw[decide_eq_true (slimT hf _ _ (Nat.le_refl _) ha i j hT)];rfl
    | false=>cases decide (i≤j)<;>rfl
  · obtain ⟨h1,h2⟩:=h.2.2 e
    rw[T_not hf h.1 h1,h2]
theorem starR_table (hf:FineN ns) {x r:Int} (hx:isIn ns x) (h:StarR ns x r):Eqv (l.length+1) (nodeT l bits ns r) (anyTo (nodeT l bits ns x) (l.length+1) (l.length+1)):=by
  by_cases e:kd ns x=0∨kd ns x=1
  · rw[T_em hf h.1 (h.2.1 e)]
    refine (any_of_none (fun i j hi hj hT=>?_)).symm
    rcases e with e | e
    · rw[T_no hf hx e] at hT;cases hT
    · rw[T_em hf hx e] at hT;exact (eqF_iff _ _).1 hT
  · by_cases e7:kd ns x=7
    · rw[h.2.2.1 e7,T_star hf hx e7]
      exact (any_any _ _).symm
    · obtain ⟨h1,h2⟩:=h.2.2.2 (by omega) (by omega) e7
      rw[T_star hf h.1 h1,h2];exact Eqv.refl _ _
end
end
theorem nodesF_up (l bits:List Nat) (ns more:List Nd):∀j,j≤ns.length→nodesF l bits (ns++more) j=nodesF l bits ns j
  | 0,_=>rfl
  | j+1,h=>by
    show nodesF l bits (ns++more) j++[nodeF l bits (nodesF l bits (ns++more) j) (ndAt (ns++more) j)]=nodesF l bits ns j++[nodeF l bits (nodesF l bits ns j) (ndAt ns j)]
    have e:ndAt (ns++more) j=ndAt ns j:=by unfold ndAt;rw[List.getElem?_append_left (by omega)]
    rw[nodesF_up l bits ns more j (by omega),e]
theorem nodeT_up (l bits:List Nat) {ns:List Nd} (more:List Nd) {x:Int} (hx:isIn ns x):nodeT l bits (ns++more) x=nodeT l bits ns x:=by
  unfold isIn at hx
  rw[←fAt_prefix l bits (ns++more) x ns.length hx.1 hx.2 (by rw[List.length_append];omega),nodesF_up l bits ns more ns.length (Nat.le_refl _)]
  rfl
end Go.Proofs.YtgmpfnfomgadeaaGreat

/- Whether a node matches nothing, kind by kind; some number of times, as Build puts it. Mathematics; no program is named. -/
set_option linter.unusedSimpArgs false
set_option linter.unusedVariables false
namespace Go.Proofs.YtgmpfnfomgadeaaGreat
open Go.RowKit
section
variable {ns:List Nd} (hf:FineN ns) (bits:Nat) {x:Int} (hx:isIn ns x)
include hf hx
end
def ledF (f:Tbl) (n:Nat):Nat→Tbl→Tbl
  | 0,g=>g
  | m+1,g=>thenF f (ledF f n m g) n
def mayF (f:Tbl) (n:Nat):Nat→Tbl
  | 0=>eqF
  | m+1=>fun i j=>eqF i j||thenF f (mayF f n m) n i j
theorem led_in (f:Tbl) (n:Nat):∀(m:Nat) (g:Tbl),Eqv n (ledF f n m (thenF f g n)) (thenF f (ledF f n m g) n)
  | 0,_=>Eqv.refl _ _
  | m+1,g=>then_congr (Eqv.refl _ _) (led_in f n m g)
theorem pow_led (f:Tbl) (n:Nat):∀(m:Nat) (g:Tbl),(∀i j,g i j=true→i≤j)→Eqv n (thenF (powF f n m) g n) (ledF f n m g)
  | 0,g,hg=>eq_then hg
  | m+1,g,hg=>by
    show Eqv n (thenF (thenF (powF f n m) f n) g n) (thenF f (ledF f n m g) n)
    exact ((then_assoc n _ _ _).trans (pow_led f n m (thenF f g n) (fun i j h=>then_slim h))).trans (led_in f n m g)
theorem mayF_slim (f:Tbl) (n:Nat):∀(m i j:Nat),mayF f n m i j=true→i≤j
  | 0,i,j,h=>by have:=(eqF_iff _ _).1 h;omega
  | m+1,i,j,h=>by
    have h:(eqF i j||thenF f (mayF f n m) n i j)=true:=h
    rw[Bool.or_eq_true] at h
    rcases h with h | h
    · have:=(eqF_iff _ _).1 h;omega
    · exact then_slim h
theorem times_star (f:Tbl) (n l:Nat):Eqv n (ledF f n l (anyTo f n n)) (timesT f n l (-1)):=by
  show Eqv n _ (if (-1:Int)<0 then thenF (powF f n l) (anyTo f n n) n else _)
  rw[if_pos (by omega)]
  exact (pow_led f n l _ (fun i j h=>any_le n h)).symm
theorem pow_slim (f:Tbl) (n:Nat):∀(m i j:Nat),powF f n m i j=true→i≤j
  | 0,i,j,h=>by have:=(eqF_iff _ _).1 h;omega
  | m+1,i,j,h=>then_slim h
theorem pow_front (f:Tbl) (n:Nat) (m:Nat):Eqv n (powF f n (m+1)) (thenF f (powF f n m) n):=by
  have h1:Eqv n (powF f n (m+1)) (thenF (powF f n (m+1)) eqF n):=((eq_then_swap n _).symm.trans (eq_then (pow_slim f n (m+1)))).symm
  have h2:Eqv n (thenF (powF f n m) eqF n) (powF f n m):=(eq_then_swap n _).symm.trans (eq_then (pow_slim f n m))
  refine h1.trans ((pow_led f n (m+1) eqF (fun i j h=>by have:=(eqF_iff _ _).1 h;omega)).trans ?_)
  exact then_congr (Eqv.refl _ _) ((pow_led f n m eqF (fun i j h=>by have:=(eqF_iff _ _).1 h;omega)).symm.trans h2)
theorem may_iff (f:Tbl) (n:Nat):∀(m i j:Nat),i<n→j<n→(mayF f n m i j=true↔∃q,q≤m∧powF f n q i j=true)
  | 0,i,j,hi,hj=>⟨fun h=>⟨0,Nat.le_refl _,h⟩,fun ⟨q,hq,h⟩=>by
    have e:q=0:=Nat.le_zero.1 hq
    rw[e] at h
    exact h⟩
  | m+1,i,j,hi,hj=>by
    show (eqF i j||thenF f (mayF f n m) n i j)=true↔_
    rw[Bool.or_eq_true,then_iff]
    constructor
    · rintro (h | ⟨c,c0,c1,c2,h1,h2⟩)
      · exact ⟨0,Nat.zero_le _,h⟩
      · obtain ⟨q,hq,h3⟩:=(may_iff f n m c j c0 hj).1 h2
        exact ⟨q+1,by omega,by rw[pow_front f n q i j hi hj,then_iff];exact ⟨c,c0,c1,c2,h1,h3⟩⟩
    · rintro ⟨q,hq,h⟩
      cases q with
      | zero=>exact Or.inl h
      | succ q =>
        rw[pow_front f n q i j hi hj,then_iff] at h
        obtain ⟨c,c0,c1,c2,h1,h2⟩:=h
        exact Or.inr ⟨c,c0,c1,c2,h1,(may_iff f n m c j c0 hj).2 ⟨q,by omega,h2⟩⟩
theorem out_iff (f:Tbl) (n l:Nat):∀(m i j:Nat),outF f n l m i j=true↔∃q,q≤m∧powF f n (l+q) i j=true
  | 0,i,j=>⟨fun h=>⟨0,Nat.le_refl _,h⟩,fun ⟨q,hq,h⟩=>by
    have e:q=0:=Nat.le_zero.1 hq
    rw[e] at h
    exact h⟩
  | m+1,i,j=>by
    show (outF f n l m i j||powF f n (l+(m+1)) i j)=true↔_
    rw[Bool.or_eq_true,out_iff f n l m i j]
    constructor
    · rintro (⟨q,hq,h⟩ | h)
      · exact ⟨q,by omega,h⟩
      · exact ⟨m+1,Nat.le_refl _,h⟩
    · rintro ⟨q,hq,h⟩
      by_cases e:q=m+1
      · subst e;exact Or.inr h
      · exact Or.inl ⟨q,by omega,h⟩
theorem pow_add (f:Tbl) (n l:Nat):∀(q:Nat),Eqv n (thenF (powF f n l) (powF f n q) n) (powF f n (l+q))
  | 0=>(eq_then_swap n _).symm.trans (eq_then (pow_slim f n l))
  | q+1=>by
    show Eqv n (thenF (powF f n l) (thenF (powF f n q) f n) n) (thenF (powF f n (l+q)) f n)
    exact (then_assoc n _ _ _).symm.trans (then_congr (pow_add f n l q) (Eqv.refl _ _))
theorem times_out (f:Tbl) (n l m:Nat):Eqv n (ledF f n l (mayF f n m)) (outF f n l m):=fun i j hi hj=>bool_iff (by
  rw[←pow_led f n l (mayF f n m) (mayF_slim f n m) i j hi hj,then_iff,out_iff]
  constructor
  · rintro ⟨c,c0,c1,c2,h1,h2⟩
    obtain ⟨q,hq,h3⟩:=(may_iff f n m c j c0 hj).1 h2
    exact ⟨q,hq,by rw[←pow_add f n l q i j hi hj,then_iff];exact ⟨c,c0,c1,c2,h1,h3⟩⟩
  · rintro ⟨q,hq,h⟩
    rw[←pow_add f n l q i j hi hj,then_iff] at h
    obtain ⟨c,c0,c1,c2,h1,h2⟩:=h
    exact ⟨c,c0,c1,c2,h1,(may_iff f n m c j c0 hj).2 ⟨q,hq,h2⟩⟩)
end Go.Proofs.YtgmpfnfomgadeaaGreat
