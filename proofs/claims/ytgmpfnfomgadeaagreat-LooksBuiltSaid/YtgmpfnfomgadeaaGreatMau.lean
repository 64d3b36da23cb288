/- Joined: NormPut, NormJoin, NormJoinM, Seen, Known, NormOrM. -/
import Derived.Test.YtgmpfnfomgadeaaGreatMag
import Derived.Test.YtgmpfnfomgadeaaGreatMar
import Derived.Test.YtgmpfnfomgadeaaGreatMaf
import Derived.Test.YtgmpfnfomgadeaaGreatMas
/- A node that is put where all are as they should be: mathematics; no program is named. -/
set_option linter.unusedSectionVars false
set_option linter.unusedSimpArgs false
set_option linter.unusedVariables false
namespace Go.Proofs.YtgmpfnfomgadeaaGreat
open Go.RowKit
structure Fits (ns:List Nd) (x:Nd):Prop where
  cat:x.kind=3→(kd ns x.a≠0∧kd ns x.a≠1∧kd ns x.a≠3)∧kd ns x.b≠0∧kd ns x.b≠1
  join:∀k,k=4∨k=5→x.kind=k→kd ns x.a≠k∧(x.a::mem ns k x.b).Pairwise (·<·)∧(∀y∈x.a::mem ns k x.b,topB ns k y=false∧unitB ns k y=false)∧(∀y∈x.a::mem ns k x.b,∀z∈x.a::mem ns k x.b,kd ns y=2→kd ns z=2→y=z)
  not:x.kind=6→kd ns x.a≠6
  star:x.kind=7→kd ns x.a≠0∧kd ns x.a≠1∧kd ns x.a≠7
  bytes:x.kind=2→∃b,b<256∧x.set.has b=true
theorem fine_snoc {ns:List Nd} {x:Nd} (hf:FineN ns) (hr:x.right ns.length=true) (hx:NdFit x) (hn:¬findN ns x<ns.length):FineN (ns++[x]):=by
  have hl:(ns++[x]).length=ns.length+1:=by rw[List.length_append];rfl
  have hat:∀j,j<ns.length→ndAt (ns++[x]) j=ndAt ns j:=fun j hj=>by unfold ndAt;rw[List.getElem?_append_left hj]
  have hlast:ndAt (ns++[x]) ns.length=x:=by unfold ndAt;rw[List.getElem?_append_right (Nat.le_refl _),Nat.sub_self];rfl
  have hne:∀j,j<ns.length→ndAt ns j≠x:=fun j hj e=>hn (by
    rcases Nat.lt_or_ge (findN ns x) ns.length with h | h
    · exact h
    · have h1:=findN_not (ns:=ns) (x:=x) (t:=j) (by omega)
      rw[e,Nd.eqb_self] at h1;cases h1)
  refine ⟨fun j hj=>?_,fun i j hi hj e=>?_⟩
  · rw[hl] at hj
    by_cases c:j<ns.length
    · rw[hat j c];exact hf.1 j c
    · obtain rfl:j=ns.length:=by omega
      rw[hlast];exact ⟨hr,hx⟩
  · rw[hl] at hi hj
    by_cases c:i<ns.length
    · by_cases d:j<ns.length
      · rw[hat i c,hat j d] at e;exact hf.2 i j c d e
      · obtain rfl:j=ns.length:=by omega
        rw[hat i c,hlast] at e;exact absurd e (hne i c)
    · obtain rfl:i=ns.length:=by omega
      by_cases d:j<ns.length
      · rw[hlast,hat j d] at e;exact absurd e.symm (hne j d)
      · omega
theorem right_in {ns:List Nd} {x:Nd} (h:x.right ns.length=true) (hf:NdFit x):(x.kind=3∨x.kind=4∨x.kind=5→isIn ns x.a∧isIn ns x.b)∧(x.kind=6∨x.kind=7→isIn ns x.a):=by
  have ho:=right_ok h hf
  exact ⟨fun k=>⟨⟨(ho.2.1 k).1,(ho.2.1 k).2.1⟩,(ho.2.1 k).2.2⟩,fun k=>ho.2.2.1 k⟩
theorem canon_put {ns:List Nd} {x:Nd} (hc:Canon ns) (hr:x.right ns.length=true) (hx:NdFit x) (hl:Fits ns x) :
    Canon (putS ns x)∧isIn (putS ns x) (putId ns x)∧ndAt (putS ns x) (putId ns x).toNat=x∧(∃more,putS ns x=ns++more∧more.length≤1)∧(isIn ns (putId ns x)→putS ns x=ns):=by
  have hid:putId ns x=(findN ns x:Int):=by unfold putId;rw[if_pos hr]
  obtain ⟨p1,p2⟩:=put_at (ns:=ns) hr
  have hle:=findN_le ns x
  by_cases hlt:findN ns x<ns.length
  · have hps:putS ns x=ns:=by unfold putS;rw[if_pos hr,if_pos hlt]
    rw[hps] at p1 p2 ⊢
    refine ⟨hc,?_,by rw[hid,Int.toNat_natCast];exact p2,⟨[],by rw[List.append_nil],by simp⟩,fun _=>rfl⟩
    rw[hid];unfold isIn;omega
  · have hps:putS ns x=ns++[x]:=by unfold putS;rw[if_pos hr,if_neg hlt]
    have hfe:findN ns x=ns.length:=by omega
    have hlen:(ns++[x]).length=ns.length+1:=by rw[List.length_append];rfl
    rw[hps] at p1 p2 ⊢
    have hfine:=fine_snoc hc.fine hr hx hlt
    have hnew:ndAt (ns++[x]) (ns.length:Int).toNat=x:=by rw[Int.toNat_natCast,←hfe];exact p2
    have hcase:∀y,isIn (ns++[x]) y→isIn ns y∨y=(ns.length:Int):=fun y hy=>by
      unfold isIn at *
      rw[hlen] at hy
      omega
    obtain ⟨r2,r1⟩:=right_in hr hx
    have kn:kd (ns++[x]) (ns.length:Int)=x.kind:=by unfold kd;rw[hnew]
    have an:ka (ns++[x]) (ns.length:Int)=x.a:=by unfold ka;rw[hnew]
    have bn:kb (ns++[x]) (ns.length:Int)=x.b:=by unfold kb;rw[hnew]
    refine ⟨⟨hfine,fun y hy k3=>?_,fun k hk y hy ke=>?_,fun y hy k6=>?_,fun y hy k7=>?_,fun y hy k2=>?_⟩,by rw[hid,hfe];unfold isIn;omega,by rw[hid,hfe];exact hnew,⟨[x],rfl,by simp⟩,fun h=>by rw[hid,hfe] at h;unfold isIn at h;omega⟩
    · rcases hcase y hy with q | q
      · rw[kd_up q] at k3
        rw[ka_up q,kb_up q]
        obtain ⟨⟨a0,_⟩,b0,_⟩:=in_two hc.fine q (Or.inl k3)
        rw[kd_up a0,kd_up b0]
        exact hc.cat y q k3
      · subst q
        rw[kn] at k3
        rw[an,bn]
        obtain ⟨a0,b0⟩:=r2 (Or.inl k3)
        rw[kd_up a0,kd_up b0]
        exact hl.cat k3
    · rcases hcase y hy with q | q
      · rw[kd_up q] at ke
        rw[ka_up q,mem_up hc.fine hk [x] _ y (Nat.le_refl _) q]
        obtain ⟨⟨a0,_⟩,b0,_⟩:=in_two hc.fine q (by omega)
        rw[kd_up a0]
        obtain ⟨j1,j2,j3,j4⟩:=hc.join k hk y q ke
        have hin:∀z∈mem ns k y,isIn ns z:=fun z hz=>(mem_in hc.fine hk _ y (Nat.le_refl _) q z hz).1
        refine ⟨j1,j2,fun z hz=>?_,fun z hz u hu e1 e2=>?_⟩
        · rw[topB_up hc.fine [x] (hin z hz),unitB_up hc.fine [x] (hin z hz)];exact j3 z hz
        · rw[kd_up (hin z hz)] at e1
          rw[kd_up (hin u hu)] at e2
          exact j4 z hz u hu e1 e2
      · subst q
        rw[kn] at ke
        obtain ⟨a0,b0⟩:=r2 (by omega)
        obtain ⟨j1,j2,j3,j4⟩:=hl.join k hk ke
        have hm:mem (ns++[x]) k (ns.length:Int)=x.a::mem ns k x.b:=by
          rw[mem_node hfine hk hy (by rw[kn,ke]),an,bn,mem_up hc.fine hk [x] _ x.a (Nat.le_refl _) a0,mem_up hc.fine hk [x] _ x.b (Nat.le_refl _) b0,mem_leaf j1];rfl
        have hin:∀z∈x.a::mem ns k x.b,isIn ns z:=fun z hz=>by
          rcases List.mem_cons.1 hz with rfl | hz
          · exact a0
          · exact (mem_in hc.fine hk _ x.b (Nat.le_refl _) b0 z hz).1
        rw[an,kd_up a0,hm]
        refine ⟨j1,j2,fun z hz=>?_,fun z hz u hu e1 e2=>?_⟩
        · rw[topB_up hc.fine [x] (hin z hz),unitB_up hc.fine [x] (hin z hz)];exact j3 z hz
        · rw[kd_up (hin z hz)] at e1
          rw[kd_up (hin u hu)] at e2
          exact j4 z hz u hu e1 e2
    · rcases hcase y hy with q | q
      · rw[kd_up q] at k6
        rw[ka_up q,kd_up (in_one hc.fine q (Or.inl k6)).1]
        exact hc.not y q k6
      · subst q
        rw[kn] at k6
        rw[an,kd_up (r1 (Or.inl k6))]
        exact hl.not k6
    · rcases hcase y hy with q | q
      · rw[kd_up q] at k7
        rw[ka_up q,kd_up (in_one hc.fine q (Or.inr k7)).1]
        exact hc.star y q k7
      · subst q
        rw[kn] at k7
        rw[an,kd_up (r1 (Or.inr k7))]
        exact hl.star k7
    · rcases hcase y hy with q | q
      · rw[kd_up q] at k2
        rw[nd_up q]
        exact hc.bytes y q k2
      · subst q
        rw[kn] at k2
        rw[hnew]
        exact hl.bytes k2
end Go.Proofs.YtgmpfnfomgadeaaGreat

/- How what is put together is made, member by member: mathematics; no program is named. -/
set_option linter.unusedSectionVars false
set_option linter.unusedSimpArgs false
set_option linter.unusedVariables false
namespace Go.Proofs.YtgmpfnfomgadeaaGreat
open Go.RowKit
section
variable {ns:List Nd} (hc:Canon ns) {k:Int} (hk:k=4∨k=5)
theorem view_hit {x:Int} (ht:topB ns k x=false) (a:Atom):view ns k x a=true↔∃y∈mem ns k x,hit ns k y a=true:=by
  unfold view
  rw[ht,Bool.false_or,List.any_eq_true]
include hc hk
theorem join_of_list {ls:List Int} {r:Int} (hls:∀x∈ls,isIn ns x) (hr:isIn ns r) (tr:topB ns k r=false) (htop:∀x∈ls,topB ns k x=false)
    (hoth:∀y,kd ns y≠2→unitB ns k y=false→(y∈mem ns k r↔∃x∈ls,y∈mem ns k x))
    (hsome:(∃y∈mem ns k r,kd ns y=2)↔∃x∈ls,∃y∈mem ns k x,kd ns y=2)
    (hbyte:∀b,b<256→((∃y∈mem ns k r,kd ns y=2∧((ndAt ns y.toNat).set.has b != decide (k=5))=true)↔∃x∈ls,∃z∈mem ns k x,kd ns z=2∧((ndAt ns z.toNat).set.has b != decide (k=5))=true)):JoinR ns k ls r:=by
  have hv:∀a,view ns k r a=ls.any (fun x=>view ns k x a):=fun a=>bool_iff (by
    rw[view_hit tr,List.any_eq_true]
    have hany:(∃x∈ls,view ns k x a=true)↔∃x∈ls,∃y∈mem ns k x,hit ns k y a=true :=
      ⟨fun ⟨x,hx,h⟩=>⟨x,hx,(view_hit (htop x hx) a).1 h⟩,fun ⟨x,hx,h⟩=>⟨x,hx,(view_hit (htop x hx) a).2 h⟩⟩
    rw[hany]
    cases a with
    | top =>
      constructor
      · rintro ⟨y,_,h⟩;cases h
      · rintro ⟨x,_,y,_,h⟩;cases h
    | oth z =>
      have e:∀y,hit ns k y (.oth z)=true↔y=z∧kd ns z≠2∧unitB ns k z=false:=fun y=>by
        show (decide (y=z)&&(!decide (kd ns y=2)&&!unitB ns k y))=true↔_
        rw[Bool.and_eq_true,Bool.and_eq_true,decide_eq_true_eq]
        constructor
        · rintro ⟨rfl,h1,h2⟩
          exact ⟨rfl,by simpa using h1,by simpa using h2⟩
        · rintro ⟨rfl,h1,h2⟩
          exact ⟨rfl,by simpa using h1,by simpa using h2⟩
      constructor
      · rintro ⟨y,hy,h⟩
        obtain ⟨rfl,h1,h2⟩:=(e y).1 h
        obtain ⟨x,hx,hm⟩:=(hoth y h1 h2).1 hy
        exact ⟨x,hx,y,hm,h⟩
      · rintro ⟨x,hx,y,hy,h⟩
        obtain ⟨rfl,h1,h2⟩:=(e y).1 h
        exact ⟨y,(hoth y h1 h2).2 ⟨x,hx,hy⟩,h⟩
    | some =>
      have e:∀y,hit ns k y .some=true↔kd ns y=2:=fun y=>decide_eq_true_iff
      constructor
      · rintro ⟨y,hy,h⟩
        obtain ⟨x,hx,z,hz,h2⟩:=hsome.1 ⟨y,hy,(e y).1 h⟩
        exact ⟨x,hx,z,hz,(e z).2 h2⟩
      · rintro ⟨x,hx,z,hz,h⟩
        obtain ⟨y,hy,h2⟩:=hsome.2 ⟨x,hx,z,hz,(e z).1 h⟩
        exact ⟨y,hy,(e y).2 h2⟩
    | byte b =>
      have e:∀y,hit ns k y (.byte b)=true↔b<256∧kd ns y=2∧((ndAt ns y.toNat).set.has b != decide (k=5))=true:=fun y=>by
        show (decide (b<256)&&(decide (kd ns y=2)&&_))=true↔_
        rw[Bool.and_eq_true,Bool.and_eq_true,decide_eq_true_eq,decide_eq_true_eq]
      constructor
      · rintro ⟨y,hy,h⟩
        obtain ⟨hb,h1,h2⟩:=(e y).1 h
        obtain ⟨x,hx,z,hz,h3⟩:=(hbyte b hb).1 ⟨y,hy,h1,h2⟩
        exact ⟨x,hx,z,hz,(e z).2 ⟨hb,h3⟩⟩
      · rintro ⟨x,hx,z,hz,h⟩
        obtain ⟨hb,h1,h2⟩:=(e z).1 h
        obtain ⟨y,hy,h3⟩:=(hbyte b hb).2 ⟨x,hx,z,hz,h1,h2⟩
        exact ⟨y,hy,(e y).2 ⟨hb,h3⟩⟩)
  refine ⟨hr,fun a=>?_⟩
  rw[clos_no,hv]
  intro hs
  have:Shuts k (view ns k r):=by
    rcases hs with hs | ⟨h5,hs⟩
    · exact Or.inl (by rw[hv];exact hs)
    · exact Or.inr ⟨h5,fun b hb=>by rw[hv];exact hs b hb⟩
  rw[view_shut hc hk hr this] at tr
  cases tr
theorem join_of_top {ls:List Int} {t:Int} (ht:isIn ns t) (hb:topB ns k t=true) (hx:∃x∈ls,topB ns k x=true):JoinR ns k ls t :=
  ⟨ht,fun a=>by
    have hv:view ns k t a=true:=by unfold view;rw[hb,Bool.true_or]
    rw[hv,clos_yes (Or.inl ?_)]
    obtain ⟨x,hx,h⟩:=hx
    exact List.any_eq_true.2 ⟨x,hx,by rw[view_top];exact h⟩⟩
theorem join_of_units {ls:List Int} {u:Int} (hls:∀x∈ls,isIn ns x) (hu:isIn ns u) (hb:unitB ns k u=true) (hx:∀x∈ls,unitB ns k x=true):JoinR ns k ls u :=
  ⟨hu,fun a=>by
    have hv:∀a,ls.any (fun x=>view ns k x a)=false:=fun a=>by
      rw[List.any_eq_false]
      intro x hm
      rw[view_unit hc hk (hls x hm) (hx x hm)]
      simp
    rw[view_unit hc hk hu hb,clos_no,hv]
    rintro (h | ⟨_,h⟩)
    · have h:ls.any (fun x=>view ns k x .top)=true:=h
      rw[hv] at h;cases h
    · have h:ls.any (fun x=>view ns k x (.byte 0))=true:=h 0 (by omega)
      rw[hv] at h;cases h⟩
omit hc hk in
theorem join_of_shut {ls:List Int} {t:Int} (ht:isIn ns t) (hb:topB ns 5 t=true) (hx:∀b,b<256→∃x∈ls,∃z∈mem ns 5 x,kd ns z=2∧(ndAt ns z.toNat).set.has b=false):JoinR ns 5 ls t :=
  ⟨ht,fun a=>by
    have hv:view ns 5 t a=true:=by unfold view;rw[hb,Bool.true_or]
    rw[hv,clos_yes (Or.inr ⟨rfl,fun b h256=>?_⟩)]
    obtain ⟨x,hx,z,hz,h2,hh⟩:=hx b h256
    rw[List.any_eq_true]
    refine ⟨x,hx,?_⟩
    unfold view
    rw[Bool.or_eq_true,List.any_eq_true]
    refine Or.inr ⟨z,hz,?_⟩
    show (decide (b<256)&&(decide (kd ns z=2)&&((ndAt ns z.toNat).set.has b != decide ((5:Int)=5))))=true
    rw[decide_eq_true h256,decide_eq_true h2,hh]
    rfl⟩
end
structure IsList (ns:List Nd) (k:Int) (fl:List Int) (r:Int):Prop where
  ne:fl≠[]
  inn:isIn ns r
  mems:mem ns k r=fl
  top:topB ns k r=false
  unit:unitB ns k r=false
theorem IsList.up {ns:List Nd} {k:Int} {fl:List Int} {r:Int} (h:IsList ns k fl r) (hk:k=4∨k=5) (hf:FineN ns) (more:List Nd):IsList (ns++more) k fl r :=
  ⟨h.ne,h.inn.up more,by rw[mem_up hf hk more _ r (Nat.le_refl _) h.inn];exact h.mems,by rw[topB_up hf more h.inn];exact h.top,by rw[unitB_up hf more h.inn];exact h.unit⟩
theorem IsList.one {ns:List Nd} {k x:Int} (hx:isIn ns x) (hk:kd ns x≠k) (ht:topB ns k x=false) (hu:unitB ns k x=false):IsList ns k [x] x:=⟨by simp,hx,mem_leaf hk,ht,hu⟩
theorem IsList.cons {ns:List Nd} (hc:Canon ns) {k:Int} (hk:k=4∨k=5) {fl:List Int} {a r:Int} (h:IsList ns k fl r) (ha:isIn ns a) (hka:kd ns a≠k) (hta:topB ns k a=false) (hua:unitB ns k a=false) (hlt:∀y∈fl,a<y) (hby:kd ns a=2→∀y∈fl,kd ns y≠2) (hmax:ns.length≤20000) :
    (Nd.mk k noSt a r false).right ns.length=true∧NdFit (Nd.mk k noSt a r false)∧Fits ns (Nd.mk k noSt a r false)∧IsList (putS ns (Nd.mk k noSt a r false)) k (a::fl) (putId ns (Nd.mk k noSt a r false)):=by
  have hi:=h.inn
  unfold isIn at ha hi
  have hr:(Nd.mk k noSt a r false).right ns.length=true:=by
    unfold Nd.right aIn
    rw[if_neg (by dsimp only;omega),if_neg (by dsimp only;omega),if_pos (by dsimp only;omega),Nd.eqb_self]
    dsimp only
    rw[decide_eq_true ha.1,decide_eq_true ha.2,decide_eq_true hi.1,decide_eq_true hi.2];rfl
  have hx:NdFit (Nd.mk k noSt a r false):=⟨by unfold I64;dsimp only;omega,⟨by unfold U64;exact Nat.zero_lt_succ _,by unfold U64;exact Nat.zero_lt_succ _,by unfold U64;exact Nat.zero_lt_succ _,by unfold U64;exact Nat.zero_lt_succ _⟩,by unfold I64;dsimp only;omega,by unfold I64;dsimp only;omega⟩
  obtain ⟨e1,e2,e3⟩:=els hc hk h.inn h.top h.unit
  rw[h.mems] at e1 e2 e3
  have hl:Fits ns (Nd.mk k noSt a r false):=by
    refine ⟨fun q=>by dsimp only at q;omega,fun k' hk' q=>?_,fun q=>by dsimp only at q;omega,fun q=>by dsimp only at q;omega,fun q=>by dsimp only at q;omega⟩
    have q:k=k':=q
    subst q
    show kd ns a≠k∧(a::mem ns k r).Pairwise (·<·)∧_∧_
    rw[h.mems]
    refine ⟨hka,List.pairwise_cons.2 ⟨hlt,e1⟩,fun y hy=>?_,fun y hy z hz h1 h2=>?_⟩
    · rcases List.mem_cons.1 hy with q1 | q1
      · have q1:y=a:=q1
        rw[q1];exact ⟨hta,hua⟩
      · exact (e2 y q1).2.2
    · rcases List.mem_cons.1 hy with q1 | q1
      · have q1:y=a:=q1
        rcases List.mem_cons.1 hz with q2 | q2
        · have q2:z=a:=q2
          rw[q1,q2]
        · exact absurd h2 (hby (by rw[←q1];exact h1) z q2)
      · rcases List.mem_cons.1 hz with q2 | q2
        · have q2:z=a:=q2
          exact absurd h1 (hby (by rw[←q2];exact h2) y q1)
        · exact e3 y q1 z q2 h1 h2
  obtain ⟨c1,c2,c3,⟨more,c4,_⟩,_⟩:=canon_put hc hr hx hl
  refine ⟨hr,hx,hl,by simp,c2,?_,?_,?_⟩
  · have hk2:kd (putS ns (Nd.mk k noSt a r false)) (putId ns (Nd.mk k noSt a r false))=k:=by unfold kd;rw[c3]
    have ha2:ka (putS ns (Nd.mk k noSt a r false)) (putId ns (Nd.mk k noSt a r false))=a:=by unfold ka;rw[c3]
    have hb2:kb (putS ns (Nd.mk k noSt a r false)) (putId ns (Nd.mk k noSt a r false))=r:=by unfold kb;rw[c3]
    rw[mem_node c1.fine hk c2 hk2,ha2,hb2,c4,mem_up hc.fine hk more _ a (Nat.le_refl _) ha,mem_up hc.fine hk more _ r (Nat.le_refl _) h.inn,mem_leaf hka,h.mems];rfl
  · cases q:topB (putS ns (Nd.mk k noSt a r false)) k (putId ns (Nd.mk k noSt a r false)) with
    | false=>rfl
    | true =>
      have:=topB_kind q
      unfold kd at this
      rw[c3] at this
      dsimp only at this
      omega
  · cases q:unitB (putS ns (Nd.mk k noSt a r false)) k (putId ns (Nd.mk k noSt a r false)) with
    | false=>rfl
    | true =>
      have:=unitB_kind q
      unfold kd at this
      rw[c3] at this
      dsimp only at this
      omega
end Go.Proofs.YtgmpfnfomgadeaaGreat

/- A list of members, put together from the last one on: mathematics; no program is named. -/
set_option linter.unusedSectionVars false
set_option linter.unusedSimpArgs false
set_option linter.unusedVariables false
namespace Go.Proofs.YtgmpfnfomgadeaaGreat
open Go.RowKit
structure GoodL (ns:List Nd) (k:Int) (sl:List Int):Prop where
  lt:sl.Pairwise (·<·)
  mem:∀y∈sl,isIn ns y∧kd ns y≠k∧topB ns k y=false∧unitB ns k y=false
  one:∀y∈sl,∀z∈sl,kd ns y=2→kd ns z=2→y=z
structure StepR (ns:List Nd) (k:Int) (sl:List Int) (j:Nat) (ns':List Nd) (r:Int):Prop where
  canon:Canon ns'
  list:IsList ns' k (sl.drop j) r
  more:∃more,ns'=ns++more∧more.length+j+1≤sl.length∧((∃r0,IsList ns k sl r0)→more=[])
section
variable {ns:List Nd} (hc:Canon ns) {k:Int} (hk:k=4∨k=5)
include hc hk
theorem IsList.uniq {fl:List Int} {r r':Int} (h:IsList ns k fl r) (h':IsList ns k fl r'):r=r':=mem_inj hc hk _ r r' (Nat.le_refl _) h.inn h'.inn (by rw[h.mems,h'.mems])
theorem IsList.tail {a:Int} {fl:List Int} {r:Int} (h:IsList ns k (a::fl) r) (hne:fl≠[]):∃r',IsList ns k fl r':=by
  by_cases e:kd ns r=k
  · obtain ⟨j1,j2,j3,j4⟩:=hc.join k hk r h.inn e
    obtain ⟨⟨a0,_⟩,b0,_⟩:=in_two hc.fine h.inn (by omega)
    have hm:=mem_node hc.fine hk h.inn e
    rw[mem_leaf j1,h.mems] at hm
    have hm:a::fl=ka ns r::mem ns k (kb ns r):=hm
    injection hm with h1 h2
    refine ⟨kb ns r,hne,b0,h2.symm,?_,?_⟩
    · cases q:topB ns k (kb ns r) with
      | false=>rfl
      | true =>
        have hk2:=topB_kind q
        have hin:kb ns r∈mem ns k r:=by rw[h.mems,h2,mem_leaf (show kd ns (kb ns r)≠k by omega)];simp
        rw[(j3 _ hin).1] at q;cases q
    · cases q:unitB ns k (kb ns r) with
      | false=>rfl
      | true =>
        have hk2:=unitB_kind q
        have hin:kb ns r∈mem ns k r:=by rw[h.mems,h2,mem_leaf (show kd ns (kb ns r)≠k by omega)];simp
        rw[(j3 _ hin).2] at q;cases q
  · have:=h.mems
    rw[mem_leaf e] at this
    injection this with _ h2
    exact absurd h2.symm hne
theorem IsList.drop {sl:List Int} {r:Int} (h:IsList ns k sl r):∀j,j<sl.length→∃r',IsList ns k (sl.drop j) r'
  | 0,_=>⟨r,by rw[List.drop_zero];exact h⟩
  | j+1,hj=>by
    obtain ⟨r',h'⟩:=IsList.drop h j (by omega)
    rw[List.drop_eq_getElem_cons (by omega)] at h'
    exact IsList.tail hc hk h' (fun e=>by
      have:=congrArg List.length e
      simp at this
      omega)
theorem StepR.start {sl:List Int} (hg:GoodL ns k sl) (h0:sl≠[]) (p:Nat) (hp:sl.length=p+1):StepR ns k sl p ns (sl[p]'(by omega)):=by
  have hd:sl.drop p=[sl[p]'(by omega)]:=by
    rw[List.drop_eq_getElem_cons (by omega),List.drop_eq_nil_of_le (by omega)]
  obtain ⟨m1,m2,m3,m4⟩:=hg.mem (sl[p]'(by omega)) (List.getElem_mem _)
  refine ⟨hc,by rw[hd];exact IsList.one m1 m2 m3 m4,[],by rw[List.append_nil],by simp;omega,fun _=>rfl⟩
omit hc in
theorem StepR.next {sl:List Int} (hf:FineN ns) (hg:GoodL ns k sl) {j:Nat} {ns':List Nd} {r:Int} (h:StepR ns k sl (j+1) ns' r) (hj:j+1<sl.length) (hmax:ns'.length≤20000) (hc0:Canon ns) :
    (Nd.mk k noSt (sl[j]'(by omega)) r false).right ns'.length=true∧StepR ns k sl j (putS ns' (Nd.mk k noSt (sl[j]'(by omega)) r false)) (putId ns' (Nd.mk k noSt (sl[j]'(by omega)) r false)):=by
  obtain ⟨hc,hl,more,rfl,hlen,hold⟩:=h
  obtain ⟨a,ha⟩:∃a,a=sl[j]'(by omega):=⟨_,rfl⟩
  rw[←ha]
  have hd:sl.drop j=a::sl.drop (j+1):=by rw[List.drop_eq_getElem_cons (by omega),ha]
  have hma:a∈sl:=by rw[ha];exact List.getElem_mem _
  have hsub:∀y∈sl.drop (j+1),y∈sl:=fun y hy=>List.mem_of_mem_drop hy
  obtain ⟨m1,m2,m3,m4⟩:=hg.mem a hma
  have hp:(sl.drop j).Pairwise (·<·):=hg.lt.sublist (List.drop_sublist _ _)
  rw[hd] at hp
  obtain ⟨hp1,hp2⟩:=List.pairwise_cons.1 hp
  obtain ⟨c1,c2,c3,c4⟩:=IsList.cons hc hk hl (m1.up more) (by rw[kd_up m1];exact m2) (by rw[topB_up hf more m1];exact m3) (by rw[unitB_up hf more m1];exact m4) hp1 (fun q y hy q2=>by
    have hy':=hsub y hy
    rw[kd_up m1] at q
    rw[kd_up (hg.mem y hy').1] at q2
    have:=hg.one a hma y hy' q q2
    have:=hp1 y hy
    omega) hmax
  obtain ⟨k1,k2,k3,⟨m,k4,k5⟩,k6⟩:=canon_put hc c1 c2 c3
  refine ⟨c1,k1,by rw[hd];exact c4,more++m,by rw[k4,List.append_assoc],by rw[List.length_append];omega,fun hex=>?_⟩
  have hm:=hold hex
  subst hm
  obtain ⟨r0,hr0⟩:=hex
  obtain ⟨rj,hrj⟩:=IsList.drop hc0 hk hr0 j (by omega)
  rw[List.append_nil] at *
  have hu:=hrj.up hk hf m
  rw[←k4] at hu
  rw[hd] at hu
  have e:=IsList.uniq k1 hk c4 hu
  have:=k6 (by rw[e];exact hrj.inn)
  rw[k4] at this
  exact List.append_right_eq_self.1 this
end
end Go.Proofs.YtgmpfnfomgadeaaGreat

/- A map of whole numbers that are there. -/
set_option linter.unusedSimpArgs false
set_option linter.unusedVariables false
namespace Go.Proofs.YtgmpfnfomgadeaaGreat
open Go.RowKit Go.Maps
theorem keyedInt:Keyed Tryz.prog 3:=Maps.int_keyed Tryz.underlying3
theorem keyInt {x:Int} (h:I64 x):keyOf Tryz.prog 3 (.int .i64 x)=some (.int .i64 x):=Maps.keyOf_int_mk Tryz.underlying3 (WalkArith.wf_i64 (by unfold I64 at h;omega))
def unitR:Value→Option (DataW Unit×List MemPlace)
  | .agg ⟨[]⟩=>some (.agg [],[])
  | _=>none
theorem unitR_is {v:Value} {z:DataW Unit×List MemPlace} (h:unitR v=some z):v=.agg #[]:=by
  unfold unitR at h
  split at h
  · rfl
  · cases h
def SeenAt (w:World) (b n:Nat) (s:List Int):Prop:=∃D:DataW Unit,w.ownsMap Tryz.prog 3 unitR b n D∧∀x,I64 x→has D (.int .i64 x)=decide (x∈s)
theorem SeenAt.made (w:World):SeenAt (w.alloc (.map #[] 0)) w.heap.size 0 []:=⟨_,World.ownsMap_made _ _ _ _,fun x _=>(show false=decide (x∈([]:List Int)) by simp)⟩
theorem SeenAt.lt {w:World} {b n:Nat} {s:List Int} (h:SeenAt w b n s):b<w.heap.size:=by obtain ⟨D,h1,_⟩:=h;exact h1.lt
theorem SeenAt.kept {w w':World} {b n:Nat} {s:List Int} (h:SeenAt w b n s) (hb:w'.heap[b]?=w.heap[b]?):SeenAt w' b n s:=by
  obtain ⟨D,⟨es,clock,h1,h2⟩,h3⟩:=h
  exact ⟨D,⟨es,clock,hb.trans h1,h2⟩,h3⟩
theorem zeroUnit (w:World):(zeroValue 100).run Tryz.prog w=.ok (.agg #[]) w:=by kernel_rfl
theorem look_no (w:World) {x:Int} (hx:I64 x):(Instr.lookup 124 (.map none) (.int .i64 x) true).run Tryz.prog w=.ok (.tuple #[.agg #[],.bool false]) w :=
  Maps.look_nil true keyedInt Tryz.underlying124 (zeroUnit w) (keyInt hx)
theorem SeenAt.look {w:World} {b n:Nat} {s:List Int} {x:Int} (h:SeenAt w b n s) (hx:I64 x):(Instr.lookup 124 (.map (some b)) (.int .i64 x) true).run Tryz.prog w=.ok (.tuple #[.agg #[],.bool (decide (x∈s))]) w:=by
  obtain ⟨D,hown,hD⟩:=h
  obtain ⟨v,ps,hr,hv⟩:=hown.look_ok keyedInt Tryz.underlying124 (zeroUnit w) (zd:=.agg []) (zp:=[]) rfl (keyInt hx)
  rw[hr,hD x hx,unitR_is hv]
theorem SeenAt.store {w:World} {b n:Nat} {s:List Int} {x:Int} (h:SeenAt w b n s) (hx:I64 x) (hn:n≤1000000):∃w',(Instr.mapUpdate 124 (.map (some b)) (.int .i64 x) (.agg #[])).run Tryz.prog w=.ok () w'∧SeenAt w' b (n+1) (x::s)∧w.grownBy w' (some b):=by
  obtain ⟨D,hown,hD⟩:=h
  obtain ⟨w',hr,h1,h2⟩:=World.ownsMap.update (val:=.agg #[]) (d:=.agg []) (ps:=[]) hown keyedInt Tryz.underlying124 (show n<maxLen by unfold maxLen;omega) (keyInt hx) rfl
  refine ⟨w',hr,⟨_,h1,fun y hy=>?_⟩,h2⟩
  by_cases e:x=y
  · subst e
    rw[has_put_same hown.isMap (keyedInt.key (keyInt hx))];simp
  · have hk:(Lit.int .i64 y)≠Lit.int .i64 x:=fun q=>by injection q with _ q;exact e q.symm
    rw[has_put_other hk,hD y hy]
    by_cases hm:y∈s
    · rw[decide_eq_true hm,decide_eq_true (List.mem_cons_of_mem _ hm)]
    · rw[decide_eq_false hm,decide_eq_false (fun q=>by rcases List.mem_cons.1 q with q | q;exact e q.symm;exact hm q)]
end Go.Proofs.YtgmpfnfomgadeaaGreat

/- A map of nodes that are known to match nothing, or not; a place of an input. -/
set_option linter.unusedSimpArgs false
set_option linter.unusedVariables false
namespace Go.Proofs.YtgmpfnfomgadeaaGreat
open Go.RowKit Go.Maps
def ansR:Value→Option (DataW Unit×List MemPlace)
  | .agg ⟨[.bool b]⟩=>some (.lit (.bool b),[])
  | _=>none
def KnownAt (w:World) (b:Nat) (f:Int→Bool) (s:List Int):Prop:=∃D:DataW Unit,w.ownsMap Tryz.prog 3 ansR b s.length D∧∀x,I64 x→has D (.int .i64 x)=decide (x∈s)∧(x∈s→D.atKey (.int .i64 x) (.lit (.bool false))=.lit (.bool (f x)))
theorem KnownAt.made (w:World) (f:Int→Bool):KnownAt (w.alloc (.map #[] 0)) w.heap.size f []:=⟨_,World.ownsMap_made _ _ _ _,fun x _=>⟨(show false=decide (x∈([]:List Int)) by simp),fun h=>by cases h⟩⟩
theorem KnownAt.lt {w:World} {b:Nat} {f:Int→Bool} {s:List Int} (h:KnownAt w b f s):b<w.heap.size:=by obtain ⟨D,h1,_⟩:=h;exact h1.lt
theorem KnownAt.kept {w w':World} {b:Nat} {f:Int→Bool} {s:List Int} (h:KnownAt w b f s) (hb:w'.heap[b]?=w.heap[b]?):KnownAt w' b f s:=by
  obtain ⟨D,⟨es,clock,h1,h2⟩,h3⟩:=h
  exact ⟨D,⟨es,clock,hb.trans h1,h2⟩,h3⟩
theorem nodup_room {n:Nat}:∀{s m:List Int},s.Nodup→(∀z∈s,z∈m)→s.length≤m.length
  | [],_,_,_=>Nat.zero_le _
  | x::s,m,hp,h=>by
    obtain ⟨h1,h2⟩:=List.nodup_cons.1 hp
    have hx:x∈m:=h x (by simp)
    have ih:=nodup_room (n:=n) (m:=m.erase x) h2 (fun z hz=>(List.mem_erase_of_ne (fun e=>h1 (by rw[←e];exact hz))).2 (h z (List.mem_cons_of_mem _ hz)))
    have:=List.length_erase_of_mem hx
    have hpos:0<m.length:=List.length_pos_of_mem hx
    rw[List.length_cons]
    omega
theorem nodup_in {n:Nat} {s:List Int} (hp:s.Nodup) (h:∀z∈s,0≤z∧z<(n:Int)):s.length≤n:=by
  have:=nodup_room (n:=n) (m:=(List.range n).map Int.ofNat) hp (fun z hz=>by
    obtain ⟨h0,h1⟩:=h z hz
    exact List.mem_map.2 ⟨z.toNat,List.mem_range.2 (by omega),by show ((z.toNat:Nat):Int)=z;omega⟩)
  simpa using this
end Go.Proofs.YtgmpfnfomgadeaaGreat

/- What the members of nodes are put together to: mathematics; no program is named. -/
set_option linter.unusedSectionVars false
set_option linter.unusedSimpArgs false
set_option linter.unusedVariables false
namespace Go.Proofs.YtgmpfnfomgadeaaGreat
open Go.RowKit
structure Coll (ns:List Nd) (k:Int) (l ms:List Int):Prop where
  lin:∀x∈l,isIn ns x
  nd:ms.Nodup
  iff:∀y,y∈ms↔∃x∈l,y∈mem ns k x
def otherB (ns:List Nd) (k y:Int):Bool:=!decide (kd ns y=2)&&!unitB ns k y
def BytesOf (ns:List Nd) (k:Int) (ms:List Int) (U:St):Prop:=U.Ok∧∀b,b<256→((U.has b != decide (k=5))=true↔∃y∈ms,kd ns y=2∧((ndAt ns y.toNat).set.has b != decide (k=5))=true)
section
variable {ns:List Nd} (hc:Canon ns) {k:Int} (hk:k=4∨k=5)
include hc hk
theorem Coll.inn {l ms:List Int} (h:Coll ns k l ms) {y:Int} (hy:y∈ms):isIn ns y∧kd ns y≠k:=by
  obtain ⟨x,hx,hm⟩:=(h.iff y).1 hy
  have:=mem_in hc.fine hk _ x (Nat.le_refl _) (h.lin x hx) y hm
  exact ⟨this.1,this.2.2⟩
theorem Coll.up {l ms:List Int} (h:Coll ns k l ms) (more:List Nd):Coll (ns++more) k l ms :=
  ⟨fun x hx=>(h.lin x hx).up more,h.nd,fun y=>by
    rw[h.iff]
    constructor
    · rintro ⟨x,hx,hm⟩
      exact ⟨x,hx,by rw[mem_up hc.fine hk more _ x (Nat.le_refl _) (h.lin x hx)];exact hm⟩
    · rintro ⟨x,hx,hm⟩
      exact ⟨x,hx,by rw[mem_up hc.fine hk more _ x (Nat.le_refl _) (h.lin x hx)] at hm;exact hm⟩⟩
theorem Coll.few {l ms:List Int} (h:Coll ns k l ms):ms.length≤memN ns k l:=by
  have:memN ns k l=(l.flatMap (mem ns k)).length:=by unfold memN;rw[List.length_flatMap]
  rw[this]
  exact nodup_room (n:=0) h.nd (fun y hy=>by
    obtain ⟨x,hx,hm⟩:=(h.iff y).1 hy
    exact List.mem_flatMap.2 ⟨x,hx,hm⟩)
theorem Coll.top {l ms:List Int} (h:Coll ns k l ms) {y:Int} (hy:y∈ms) (ht:topB ns k y=true):JoinR ns k l y:=by
  obtain ⟨x,hx,hm⟩:=(h.iff y).1 hy
  have hyi:=(h.inn hc hk hy).1
  refine join_of_top hc hk hyi ht ⟨x,hx,?_⟩
  by_cases e:kd ns x=k
  · have:=((hc.join k hk x (h.lin x hx) e).2.2.1 y hm).1
    rw[this] at ht;cases ht
  · rw[mem_leaf e,List.mem_singleton] at hm
    rw[←hm];exact ht
theorem Coll.noTop {l ms:List Int} (h:Coll ns k l ms) (hn:∀y∈ms,topB ns k y=false):∀x∈l,topB ns k x=false:=fun x hx=>by
  cases q:topB ns k x with
  | false=>rfl
  | true =>
    have hkx:=topB_kind q
    have:x∈ms:=(h.iff x).2 ⟨x,hx,by rw[mem_leaf (by omega)];simp⟩
    rw[hn x this] at q;cases q
theorem Coll.units {l ms:List Int} (h:Coll ns k l ms) (hn:∀y∈ms,unitB ns k y=true) {u:Int} (hu:isIn ns u) (hb:unitB ns k u=true):JoinR ns k l u :=
  join_of_units hc hk h.lin hu hb (fun x hx=>by
    by_cases e:kd ns x=k
    · obtain ⟨m,hm⟩:=mem_ne hc.fine hk (h.lin x hx)
      have h1:=hn m ((h.iff m).2 ⟨x,hx,hm⟩)
      have h2:=((hc.join k hk x (h.lin x hx) e).2.2.1 m hm).2
      rw[h2] at h1;cases h1
    · exact hn x ((h.iff x).2 ⟨x,hx,by rw[mem_leaf e];simp⟩))
theorem Coll.shut {l ms:List Int} (h:Coll ns 5 l ms) {U:St} (hU:BytesOf ns 5 ms U) (he:∀b,b<256→U.has b=false) {t:Int} (ht:isIn ns t) (hb:topB ns 5 t=true):JoinR ns 5 l t :=
  join_of_shut ht hb (fun b hb=>by
    obtain ⟨y,hy,h2,h3⟩:=(hU.2 b hb).1 (by rw[he b hb];rfl)
    obtain ⟨x,hx,hm⟩:=(h.iff y).1 hy
    refine ⟨x,hx,y,hm,h2,?_⟩
    cases q:(ndAt ns y.toNat).set.has b with
    | false=>rfl
    | true=>rw[q] at h3;simp at h3)
theorem Coll.made {l ms sl:List Int} (h:Coll ns k l ms) (hn:∀y∈ms,topB ns k y=false) {r:Int} (hr:IsList ns k sl r)
    (hsl:∀y,kd ns y≠2→(y∈sl↔y∈ms∧otherB ns k y=true))
    (hby:(∃b,b∈sl∧kd ns b=2∧(∃y∈ms,kd ns y=2)∧BytesOf ns k ms (ndAt ns b.toNat).set∧∀c∈sl,kd ns c=2→c=b)∨((∀y∈ms,kd ns y≠2)∧∀c∈sl,kd ns c≠2)):JoinR ns k l r:=by
  refine join_of_list hc hk h.lin hr.inn hr.top (h.noTop hc hk hn) (fun y h2 hu=>?_) ?_ (fun b hb=>?_)
  · rw[hr.mems,hsl y h2,←h.iff]
    constructor
    · rintro ⟨q,_⟩;exact q
    · intro q;exact ⟨q,by unfold otherB;rw[decide_eq_false h2,hu];rfl⟩
  · rw[hr.mems]
    constructor
    · rintro ⟨y,hy,h2⟩
      rcases hby with ⟨b,_,_,⟨z,hz,z2⟩,_⟩ | ⟨_,q⟩
      · obtain ⟨x,hx,hm⟩:=(h.iff z).1 hz
        exact ⟨x,hx,z,hm,z2⟩
      · exact absurd h2 (q y hy)
    · rintro ⟨x,hx,y,hm,h2⟩
      rcases hby with ⟨b,b1,b2,_⟩ | ⟨q,_⟩
      · exact ⟨b,b1,b2⟩
      · exact absurd h2 (q y ((h.iff y).2 ⟨x,hx,hm⟩))
  · rw[hr.mems]
    constructor
    · rintro ⟨y,hy,h2,h3⟩
      rcases hby with ⟨c,b1,b2,_,hU,honly⟩ | ⟨_,q⟩
      · rw[honly y hy h2] at h3
        obtain ⟨z,hz,z2,z3⟩:=(hU.2 b hb).1 h3
        obtain ⟨x,hx,hm⟩:=(h.iff z).1 hz
        exact ⟨x,hx,z,hm,z2,z3⟩
      · exact absurd h2 (q y hy)
    · rintro ⟨x,hx,z,hm,z2,z3⟩
      have hz:=(h.iff z).2 ⟨x,hx,hm⟩
      rcases hby with ⟨c,b1,b2,_,hU,honly⟩ | ⟨q,_⟩
      · exact ⟨c,b1,b2,(hU.2 b hb).2 ⟨z,hz,z2,z3⟩⟩
      · exact absurd z2 (q z hz)
omit hc hk in
theorem good_list {L:List Int} (hnd:L.Nodup) (hm:∀y∈L,isIn ns y∧kd ns y≠k∧topB ns k y=false∧unitB ns k y=false) (h1:∀y∈L,∀z∈L,kd ns y=2→kd ns z=2→y=z):GoodL ns k (L.mergeSort fun x y=>decide (x≤y)):=by
  have hp:(L.mergeSort fun x y=>decide (x≤y)).Perm L:=List.mergeSort_perm _ _
  have hs:=List.pairwise_mergeSort (le:=fun x y:Int=>decide (x≤y)) (fun a b c h1 h2=>by simp at *;omega) (fun a b=>by simp;omega) L
  have hn:(L.mergeSort fun x y=>decide (x≤y)).Nodup:=hp.nodup_iff.2 hnd
  refine ⟨?_,fun y hy=>hm y (hp.mem_iff.1 hy),fun y hy z hz=>h1 y (hp.mem_iff.1 hy) z (hp.mem_iff.1 hz)⟩
  have hand:(L.mergeSort fun x y=>decide (x≤y)).Pairwise (fun x y=>decide (x≤y)=true∧x≠y):=hs.and hn
  exact hand.imp (fun ⟨q1,q2⟩=>by simp at q1;omega)
theorem join_old {ns1 ns2:List Nd} {l sl:List Int} {r:Int} (m1 m2:List Nd) (e1:ns1=ns++m1) (hst:StepR ns1 k sl 0 ns2 r) (hc1:Canon ns1) (hj:JoinR ns2 k l r) (hl:∀x∈l,isIn ns x) (hold:∃r0,JoinR ns k l r0):ns2=ns1:=by
  obtain ⟨hc2,hls,more,e2,hlen,ho⟩:=hst
  obtain ⟨r0,h0⟩:=hold
  have h0':JoinR ns2 k l r0:=by
    rw[e2,e1,List.append_assoc]
    exact h0.up hc.fine _ hk hl
  have e:r=r0:=join_eq hc2 hk hj h0' (fun _=>rfl)
  subst e
  have hr1:isIn ns1 r:=by rw[e1];exact h0.1.up m1
  rw[List.drop_zero] at hls
  have:IsList ns1 k sl r:=by
    obtain ⟨q1,q2,q3,q4,q5⟩:=hls
    rw[e2] at q3 q4 q5
    rw[mem_up hc1.fine hk more _ r (Nat.le_refl _) hr1] at q3
    rw[topB_up hc1.fine more hr1] at q4
    rw[unitB_up hc1.fine more hr1] at q5
    exact ⟨q1,hr1,q3,q4,q5⟩
  have hm:=ho ⟨r,this⟩
  rw[e2,hm,List.append_nil]
end
end Go.Proofs.YtgmpfnfomgadeaaGreat
