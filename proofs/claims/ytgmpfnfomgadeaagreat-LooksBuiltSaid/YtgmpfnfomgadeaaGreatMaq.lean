/- Joined: TreeSame, TreeSameW, Few, FewSlim. -/
import Derived.Test.YtgmpfnfomgadeaaGreatMap
import Derived.Test.YtgmpfnfomgadeaaGreatProg
import Derived.Test.YtgmpfnfomgadeaaGreatMaa
import Derived.Test.YtgmpfnfomgadeaaGreatMah
import Derived.Test.YtgmpfnfomgadeaaGreatMab
import Derived.Test.YtgmpfnfomgadeaaGreatMad
/- tree.Same, where the first pattern's lists lie in blocks of their own. -/
set_option linter.unusedSimpArgs false
set_option linter.unusedVariables false
namespace Go.Proofs.YtgmpfnfomgadeaaGreat
open Go.RowKit
def bfs:Nat→List Pr→Bool
  | 0,P=>P.isEmpty
  | n+1,P=>P.isEmpty||(P.all (fun p=>okL p.ms p.ns)&&bfs n (nextP P))
theorem bfs_nil (n:Nat):bfs n []=true:=by cases n<;>rfl
theorem mem_nextP {P:List Pr} {q:Pr}:q∈nextP P↔∃p∈P,∃x∈p.ms.zip p.ns,x.1.parts.length≠0∧q=⟨.slice x.1.addr x.1.parts.length x.1.cap,x.1.parts,.slice x.2.addr x.2.parts.length x.2.cap,x.2.parts⟩:=by
  unfold nextP nextL
  rw[List.mem_flatMap]
  constructor
  · rintro ⟨p,hp,h⟩
    rw[List.mem_flatMap] at h
    obtain ⟨x,hx,h⟩:=h
    unfold nextE at h
    split at h
    · cases h
    · exact ⟨p,hp,x,hx,by assumption,List.mem_singleton.1 h⟩
  · rintro ⟨p,hp,x,hx,h0,rfl⟩
    refine ⟨p,hp,List.mem_flatMap.2 ⟨x,hx,?_⟩⟩
    unfold nextE
    rw[if_neg h0]
    exact List.mem_singleton.2 rfl
theorem own_parts {a b:Tr} (h:ownSame a b=true):a.parts.length=b.parts.length:=by
  unfold ownSame at h
  simp only[Bool.and_eq_true,beq_iff_eq] at h
  exact h.2.2.2.2.2
theorem sameS_iff {k:Nat} {m:Int} {a b:Tr} (hm:1≤m):sameS (k+1) m a b=true↔ownSame a b=true∧∀x∈a.parts.zip b.parts,sameS k (m-1) x.1 x.2=true:=by
  show (decide (1≤m)&&(ownSame a b&&(a.parts.zip b.parts).all (fun p=>sameS k (m-1) p.1 p.2)))=true↔_
  rw[decide_eq_true hm,Bool.true_and,Bool.and_eq_true,List.all_eq_true]
theorem bfs_same:∀(k:Nat) (P:List Pr),(∀p∈P,0<p.ms.length)→(bfs k P=true↔∀p∈P,p.ms.length=p.ns.length∧∀x∈p.ms.zip p.ns,sameS k k x.1 x.2=true)
  | 0,P,h=>by
    cases P with
    | nil=>simp[bfs]
    | cons p P =>
      refine ⟨fun q=>by simp[bfs] at q,fun q=>?_⟩
      obtain ⟨e,q⟩:=q p (by simp)
      have h0:=h p (by simp)
      have:=q (p.ms[0],p.ns[0]'(by omega)) (by
        rw[List.mem_iff_getElem]
        exact ⟨0,by rw[List.length_zip];omega,by simp⟩)
      cases this
  | k+1,P,h=>by
    have hn:∀q∈nextP P,0<q.ms.length:=fun q hq=>by
      obtain ⟨p,_,x,_,h0,rfl⟩:=mem_nextP.1 hq
      exact Nat.pos_of_ne_zero h0
    have ih:=bfs_same k (nextP P) hn
    have hk:∀a b:Tr,sameS (k+1) ((k+1:Nat):Int) a b=true↔ownSame a b=true∧∀x∈a.parts.zip b.parts,sameS k k x.1 x.2=true:=fun a b=>by
      rw[sameS_iff (by omega),show ((k+1:Nat):Int)-1=k by omega]
    constructor
    · intro q p hp
      have hne:P.isEmpty=false:=by cases P with | nil=>cases hp | cons _ _=>rfl
      unfold bfs at q
      rw[hne,Bool.false_or,Bool.and_eq_true,List.all_eq_true] at q
      have ho:=q.1 p hp
      unfold okL at ho
      rw[Bool.and_eq_true,decide_eq_true_eq,List.all_eq_true] at ho
      refine ⟨ho.1,fun x hx=>(hk _ _).2 ⟨ho.2 x hx,fun y hy=>?_⟩⟩
      have h0:x.1.parts.length≠0:=fun e=>by
        rw[List.eq_nil_of_length_eq_zero e] at hy;cases hy
      exact ((ih.1 q.2) _ (mem_nextP.2 ⟨p,hp,x,hx,h0,rfl⟩)).2 y hy
    · intro q
      unfold bfs
      rw[Bool.or_eq_true]
      refine Or.inr ?_
      rw[Bool.and_eq_true,List.all_eq_true]
      refine ⟨fun p hp=>?_,ih.2 (fun r hr=>?_)⟩
      · unfold okL
        rw[Bool.and_eq_true,decide_eq_true_eq,List.all_eq_true]
        exact ⟨(q p hp).1,fun x hx=>((hk _ _).1 ((q p hp).2 x hx)).1⟩
      · obtain ⟨p,hp,x,hx,h0,rfl⟩:=mem_nextP.1 hr
        have hs:=(hk _ _).1 ((q p hp).2 x hx)
        exact ⟨own_parts hs.1,fun y hy=>hs.2 y hy⟩
theorem own_next {w:World} {k hi:Nat}:∀{ms:List Tr} {lo:Nat},(∀t∈ms,t.n=t.parts.length)→∀{ns:List Tr},ms.length=ns.length→∀{R:List Tr} {R':List Tr},(∀c,OwnL (fun lo hi t=>OwnW w (k+1) lo hi t) hi c R→OwnL (fun lo hi t=>OwnW w k lo hi t) hi c R')→OwnL (fun lo hi t=>OwnW w (k+1) lo hi t) hi lo (ms++R)→OwnL (fun lo hi t=>OwnW w k lo hi t) hi lo ((nextL ms ns).flatMap (·.ms)++R')
  | [],lo,_,ns,hl,R,R',hR,h=>by
    obtain rfl:ns=[]:=List.eq_nil_of_length_eq_zero (by simpa using hl.symm)
    exact hR lo h
  | t::ms,lo,hn,[],hl,_,_,_,_=>by cases hl
  | t::ms,lo,hn,s::ns,hl,R,R',hR,⟨c,h1,h2⟩=>by
    have ih:=own_next (fun t ht=>hn t (List.mem_cons_of_mem _ ht)) (by simpa using hl) hR h2
    have e:nextL (t::ms) (s::ns)=nextE t s++nextL ms ns:=rfl
    rw[e,List.flatMap_append,List.append_assoc]
    obtain ⟨m,a,b,d⟩:=h1
    have key:∀{qs:List Tr} {m lo:Nat} {T:List Tr},lo≤m→OwnL (fun lo hi t=>OwnW w k lo hi t) c m qs→OwnL (fun lo hi t=>OwnW w k lo hi t) hi c T→OwnL (fun lo hi t=>OwnW w k lo hi t) hi lo (qs++T):=by
      intro qs
      induction qs with
      | nil =>
        intro m lo T hlm hq hT
        have hle:lo≤c:=Nat.le_trans hlm hq
        match T,hT with
        | [],hT=>exact Nat.le_trans hle hT
        | q::T,⟨x,h1,h2⟩=>exact ⟨x,h1.lower hle,h2⟩
      | cons q qs ihq =>
        rintro m lo T hlm ⟨x,h1,h2⟩ hT
        exact ⟨x,h1.lower hlm,ihq (Nat.le_refl _) h2 hT⟩
    unfold nextE
    split
    · exact key (qs:=[]) a (OwnL.le (fun _ _ _ q=>q.le) d) ih
    · rw[List.flatMap_cons,List.flatMap_nil,List.append_nil]
      exact key a d ih
theorem own_nextP {w:World} {k hi:Nat}:∀{P:List Pr} {lo:Nat},(∀p∈P,p.ms.length=p.ns.length∧∀t∈p.ms,t.n=t.parts.length)→OwnL (fun lo hi t=>OwnW w (k+1) lo hi t) hi lo (P.flatMap (·.ms))→OwnL (fun lo hi t=>OwnW w k lo hi t) hi lo ((nextP P).flatMap (·.ms))
  | [],_,_,h=>h
  | p::P,lo,hp,h=>by
    have e:nextP (p::P)=nextL p.ms p.ns++nextP P:=rfl
    rw[e,List.flatMap_append]
    rw[List.flatMap_cons] at h
    exact own_next (hp p (by simp)).2 (hp p (by simp)).1 (fun c h=>own_nextP (fun q hq=>hp q (List.mem_cons_of_mem _ hq)) h) h
theorem mass_nextE (k:Nat) (a b:Tr):((nextE a b).map (fun p=>lmS k p.ms)).sum≤massS (k+1) a:=by
  unfold nextE
  split
  · exact Nat.zero_le _
  · rw[List.map_singleton,List.sum_singleton,mass_parts];exact Nat.le_add_left _ _
theorem mass_nextL (k:Nat):∀(ms ns:List Tr),((nextL ms ns).map (fun p=>lmS k p.ms)).sum≤lmS (k+1) ms
  | [],_=>by simp[nextL]
  | _::_,[]=>by simp[nextL]
  | a::ms,b::ns=>by
    have e:nextL (a::ms) (b::ns)=nextE a b++nextL ms ns:=rfl
    have h1:=mass_nextE k a b
    have h2:=mass_nextL k ms ns
    rw[e,List.map_append,List.sum_append]
    unfold lmS at *
    rw[List.map_cons,List.sum_cons]
    omega
theorem mass_nextP (k:Nat):∀P:List Pr,((nextP P).map (fun p=>lmS k p.ms)).sum≤(P.map (fun p=>lmS (k+1) p.ms)).sum
  | []=>by simp[nextP]
  | p::P=>by
    have e:nextP (p::P)=nextL p.ms p.ns++nextP P:=rfl
    have h1:=mass_nextL k p.ms p.ns
    have h2:=mass_nextP k P
    rw[e,List.map_append,List.sum_append,List.map_cons,List.sum_cons]
    omega
theorem len_mass (k:Nat):∀P:List Pr,(P.map (fun p=>p.ms.length)).sum≤(P.map (fun p=>lmS k p.ms)).sum
  | []=>Nat.le_refl _
  | p::P=>by
    have h1:=lm_len k p.ms
    have h2:=len_mass k P
    rw[List.map_cons,List.sum_cons,List.map_cons,List.sum_cons]
    omega
theorem count_mass {w:World} {k:Nat}:∀{P:List Pr},(∀p∈P,0<p.ms.length)→P.length≤(P.map (fun p=>p.ms.length)).sum
  | [],_=>Nat.le_refl _
  | p::P,h=>by
    have h1:=h p (by simp)
    have h2:=count_mass (w:=w) (k:=k) (P:=P) (fun q hq=>h q (List.mem_cons_of_mem _ hq))
    rw[List.length_cons,List.map_cons,List.sum_cons]
    omega
theorem PL.pos {w:World} {k:Nat} {u:Value} {ms:List Tr} (h:PL w k u ms):0<ms.length:=by obtain ⟨_,_,_,_,h,_⟩:=h;exact h
theorem PL.ins {w:World} {k:Nat} {u:Value} {ms:List Tr} (h:PL w k u ms):∀t∈ms,Tr.Ins w k t:=by obtain ⟨_,_,_,_,_,_,_,_,h⟩:=h;exact h
structure Lvl (w:World) (k lo hi:Nat) (v:Value) (P:List Pr):Prop where
  arg:ArgP w v P
  a:∀p∈P,PL w k p.u p.ms
  b:∀p∈P,PL w k p.v p.ns
  own:OwnL (fun lo hi t=>OwnW w k lo hi t) hi lo (P.flatMap (·.ms))
  mass:(P.map (fun p=>lmS k p.ms)).sum≤4000000
  massb:∀p∈P,p.ns.length≤4000000
theorem Lvl.next {w w':World} {k lo hi:Nat} {v:Value} {P:List Pr} (h:Lvl w k lo hi v P) (hb:Below w.heap.size w w'):Lvl w' k lo hi v P :=
  ⟨h.arg.next hb,fun p hp=>(h.a p hp).next hb,fun p hp=>(h.b p hp).next hb,OwnL.next hb h.own,h.mass,h.massb⟩
theorem Lvl.lens {w:World} {k lo hi:Nat} {v:Value} {P:List Pr} (h:Lvl w k lo hi v P):P.length≤4000000:=Nat.le_trans (count_mass (w:=w) (k:=k) (fun p hp=>(h.a p hp).pos)) (Nat.le_trans (len_mass k P) h.mass)
theorem Lvl.len {w:World} {k lo hi:Nat} {v:Value} {P:List Pr} (h:Lvl w k lo hi v P) {p:Pr} (hp:p∈P):p.ms.length≤4000000:=by
  have h1:=Nat.le_trans (len_mass k P) h.mass
  have h2:p.ms.length≤(P.map (fun p=>p.ms.length)).sum:=by
    clear h h1
    induction P with
    | nil=>cases hp
    | cons q P ih =>
      rw[List.map_cons,List.sum_cons]
      rcases List.mem_cons.1 hp with rfl | hp
      · omega
      · have:=ih hp;omega
  omega
theorem Lvl.zero {w:World} {lo hi:Nat} {v:Value} {P:List Pr} (h:Lvl w 0 lo hi v P):P=[]:=by
  cases P with
  | nil=>rfl
  | cons p P=>exact ((h.a p (by simp)).ins _ (List.getElem_mem (h.a p (by simp)).pos)).1.elim
theorem Lvl.ok {w:World} {k lo hi:Nat} {v:Value} {P:List Pr} (h:Lvl w k lo hi v P) (hall:P.all (fun p=>okL p.ms p.ns)=true):∀p∈P,PrOk w k p:=fun p hp=>by
  have ho:=List.all_eq_true.1 hall p hp
  unfold okL at ho
  rw[Bool.and_eq_true,decide_eq_true_eq,List.all_eq_true] at ho
  exact ⟨h.a p hp,h.b p hp,ho.1,fun j h1 h2=>own_parts (ho.2 (p.ms[j],p.ns[j]) (by
    rw[List.mem_iff_getElem]
    exact ⟨j,by rw[List.length_zip];omega,by simp⟩))⟩
theorem Lvl.step {w w':World} {k lo hi:Nat} {v v':Value} {P:List Pr} (h:Lvl w (k+1) lo hi v P) (hall:P.all (fun p=>okL p.ms p.ns)=true) (hb:Below w.heap.size w w') (ha:ArgP w' v' (nextP P)):Lvl w' k lo hi v' (nextP P):=by
  have hok:=h.ok hall
  have hz:∀{p:Pr},p∈P→∀{x:Tr×Tr},x∈p.ms.zip p.ns→x.1∈p.ms∧x.2∈p.ns∧x.1.parts.length=x.2.parts.length:=fun {p} hp {x} hx=>by
    obtain ⟨j,hj,rfl⟩:=List.getElem_of_mem hx
    rw[List.length_zip] at hj
    have e:=(hok p hp).each j (by omega) (by omega)
    rw[List.getElem_zip]
    exact ⟨List.getElem_mem _,List.getElem_mem _,e⟩
  refine ⟨ha,fun q hq=>?_,fun q hq=>?_,OwnL.next hb (own_nextP (fun p hp=>⟨(hok p hp).len,fun t ht=>((h.a p hp).ins t ht).1.2.1.1⟩) h.own),Nat.le_trans (mass_nextP k P) h.mass,fun q hq=>?_⟩
  · obtain ⟨p,hp,x,hx,h0,rfl⟩:=mem_nextP.1 hq
    exact (part_pl ((h.a p hp).ins _ (hz hp hx).1) (by omega)).next hb
  · obtain ⟨p,hp,x,hx,h0,rfl⟩:=mem_nextP.1 hq
    have:=(hz hp hx).2.2
    exact (part_pl ((h.b p hp).ins _ (hz hp hx).2.1) (by omega)).next hb
  · obtain ⟨p,hp,x,hx,h0,rfl⟩:=mem_nextP.1 hq
    have h1:=(hz hp hx).2.2
    have h2:=mass_nextP k P
    have h3:=Nat.le_trans (len_mass k (nextP P)) (Nat.le_trans h2 h.mass)
    have:x.1.parts.length≤((nextP P).map (fun p=>p.ms.length)).sum:=by
      have:∀(Q:List Pr) (q:Pr),q∈Q→q.ms.length≤(Q.map (fun p=>p.ms.length)).sum:=fun Q q hq=>by
        induction Q with
        | nil=>cases hq
        | cons r Q ih =>
          rw[List.map_cons,List.sum_cons]
          rcases List.mem_cons.1 hq with rfl | hq
          · omega
          · have:=ih hq;omega
      exact this _ _ hq
    show x.2.parts.length≤4000000
    omega
end Go.Proofs.YtgmpfnfomgadeaaGreat

/- tree.Same: the walk. -/
set_option linter.unusedSimpArgs false
set_option linter.unusedVariables false
set_option maxHeartbeats 8000000
set_option maxRecDepth 100000
namespace Go.Proofs.YtgmpfnfomgadeaaGreat
open Go.RowKit
theorem tSame (lo hi:Nat) (a b:Tr) (w:World) (ha:Tr.Ins w 40 a) (hb:Tr.Ins w 40 b) (how:OwnW w 40 lo hi a) (hm:massS 40 a≤4000000) :
    Calls Tryz.prog 36 #[.agg a.cs.toArray,.agg b.cs.toArray] w fun e w'=>e=.returned (.bool (sameS 40 40 a b))∧Below w.heap.size w w':=by
  obtain ⟨w1,hw1⟩:∃w1,w1=(w.alloc (.cells a.cs.toArray 27)).alloc (.cells b.cs.toArray 27):=⟨_,rfl⟩
  have hb1:Below w.heap.size w w1:=by rw[hw1];exact below_two _ _
  have hs1:w1.heap.size=w.heap.size+2:=by rw[hw1];simp
  have hAa:At w1 w.heap.size 27 a.cs.toArray:=by rw[hw1];exact (At.new _ _ _).alloc _
  have hAb:At w1 (w.heap.size+1) 27 b.cs.toArray:=by rw[hw1];exact at_new' (w.alloc (.cells a.cs.toArray 27)) (w.heap.size+1) 27 (cs:=b.cs.toArray) (by simp)
  have hAa':At ((w.alloc (.cells a.cs.toArray 27)).alloc (.cells b.cs.toArray 27)) w.heap.size 27 a.cs.toArray:=(At.new _ _ _).alloc _
  obtain ⟨w2,hw2⟩:∃w2,w2=w1.alloc (.cells a.cs.toArray 27):=⟨_,rfl⟩
  have hb2:Below w1.heap.size w1 w2:=by rw[hw2];exact (Below.refl _ _).alloc (Nat.le_refl _) _
  have hA2:At w2 w1.heap.size 27 a.cs.toArray:=by rw[hw2];exact At.new _ _ _
  have hAb2:At w2 (w.heap.size+1) 27 b.cs.toArray:=At.below hAb hb2 hAb.lt
  obtain ⟨w3,hw3⟩:∃w3,w3=w2.alloc (.cells b.cs.toArray 27):=⟨_,rfl⟩
  have hb3:Below w2.heap.size w2 w3:=by rw[hw3];exact (Below.refl _ _).alloc (Nat.le_refl _) _
  have hA3:At w3 w2.heap.size 27 b.cs.toArray:=by rw[hw3];exact At.new _ _ _
  have hA23:=At.below hA2 hb3 hA2.lt
  obtain ⟨w4,hw4⟩:∃w4,w4=w3.alloc (.cells #[.slice (some ⟨w1.heap.size,0,none⟩) 1 1,.slice (some ⟨w2.heap.size,0,none⟩) 1 1] 80):=⟨_,rfl⟩
  have hb4:Below w3.heap.size w3 w4:=by rw[hw4];exact (Below.refl _ _).alloc (Nat.le_refl _) _
  have hA4:At w4 w3.heap.size 80 #[.slice (some ⟨w1.heap.size,0,none⟩) 1 1,.slice (some ⟨w2.heap.size,0,none⟩) 1 1]:=by rw[hw4];exact At.new _ _ _
  have hA24:=At.below hA23 hb4 hA23.lt
  have hA34:=At.below hA3 hb4 hA3.lt
  have hB12:=hb1.trans (hb2.mono hb1.size)
  have hB:Below w.heap.size w w4:=(hB12.trans (hb3.mono hB12.size)).trans (hb4.mono (Nat.le_trans hB12.size hb3.size))
  have pl:∀(g:Nat) (t:Tr),At w4 g 27 t.cs.toArray→Tr.Ins w4 40 t→PL w4 40 (.slice (some ⟨g,0,none⟩) 1 1) [t]:=fun g t hA hi=>by
    refine ⟨g,0,1,rfl,Nat.one_pos,hA.lt,hA.free 0,fun j hj i u hu=>?_,fun q hq=>?_⟩
    · have hj':j<1:=hj
      obtain rfl:j=0:=by omega
      show World.cell? _ ⟨g,0+0*9+i,none⟩=some u
      rw[show 0+0*9+i=i by omega,hA.cell]
      simpa using hu
    · have:q=t:=by simpa using hq
      rw[this];exact hi
  have HL0:Hid (Lvl w4 40 lo hi (.slice (some ⟨w3.heap.size,0,none⟩) 1 1) [⟨.slice (some ⟨w1.heap.size,0,none⟩) 1 1,[a],.slice (some ⟨w2.heap.size,0,none⟩) 1 1,[b]⟩]):=Lib.hid (by
    refine ⟨⟨some ⟨w3.heap.size,0,none⟩,1,rfl,fun _=>⟨w3.heap.size,0,rfl,hA4.lt,fun j hj i u hu=>?_⟩⟩,fun p hp=>?_,fun p hp=>?_,⟨hi,how.next hB,Nat.le_refl _⟩,?_,fun p hp=>?_⟩
    · have hj':j<1:=hj
      obtain rfl:j=0:=by omega
      show World.cell? _ ⟨w3.heap.size,0+0*2+i,none⟩=some u
      rw[show 0+0*2+i=i by omega,hA4.cell]
      simpa using hu
    · obtain rfl:=List.mem_singleton.1 hp
      exact pl _ _ hA24 (ha.next hB)
    · obtain rfl:=List.mem_singleton.1 hp
      exact pl _ _ hA34 (hb.next hB)
    · show ([massS 40 a].sum+0)≤4000000
      simpa using hm
    · obtain rfl:=List.mem_singleton.1 hp
      exact (by decide:1≤4000000))
  have HR0:Hid (bfs 40 [⟨.slice (some ⟨w1.heap.size,0,none⟩) 1 1,[a],.slice (some ⟨w2.heap.size,0,none⟩) 1 1,[b]⟩]=sameS 40 40 a b):=Lib.hid (by
    have h:=bfs_same 40 [⟨.slice (some ⟨w1.heap.size,0,none⟩) 1 1,[a],.slice (some ⟨w2.heap.size,0,none⟩) 1 1,[b]⟩] (fun p hp=>by rw[List.mem_singleton.1 hp];exact Nat.one_pos)
    rw[Bool.eq_iff_iff,h]
    simp)
  have HB:=Lib.hid hB
  have HW1:=Lib.hid hw1
  have HW2:=Lib.hid hw2
  have HW3:=Lib.hid hw3
  have HW4:=Lib.hid hw4
  obtain ⟨R,hR⟩:∃R,R=sameS 40 40 a b:=⟨_,rfl⟩
  rw[←hR] at HR0 ⊢
  clear hR hw1 hb1 hs1 hAa hb2 hw2 hA2 hw3 hb3 hA3 hA23 hw4 hb4 hA4 hA24 hA34 hB12 hB pl hm how ha hb
  have HAb:=Lib.hid hAb
  have HAb2:=Lib.hid hAb2
  clear hAb hAb2
  go_enter Tryz.func36,Tryz.ntmps36
  go_wp2_with (first
    | (with_reducible show wpList _ _ _ (⟨some 9,.load 27 _,_,_,_,_⟩::_) _ _
       refine wpList_load_row rfl 27 _ rfl w.heap.size rfl 27 a.cs.toArray (0,0) _ hAa' Tryz.underlying27 rfl (by kernel_rfl) ?_)
    | (with_reducible show wpList _ _ _ (⟨some 11,.load 27 _,_,_,_,_⟩::_) _ _
       refine wpList_load_row rfl 27 _ rfl (w.heap.size+1) rfl 27 b.cs.toArray (0,0) _ HAb2.out Tryz.underlying27 rfl (by kernel_rfl) ?_)
    | (with_reducible show wpList _ _ _ (⟨some 10,.buildSlice 25 _ _,_,_,_,_⟩::_) _ _
       rw[←HW1.out]
       refine wpList_slice_tr rfl _ a rfl rfl ?_
       rw[←HW2.out])
    | (with_reducible show wpList _ _ _ (⟨some 12,.buildSlice 25 _ _,_,_,_,_⟩::_) _ _
       refine wpList_slice_tr rfl _ b rfl rfl ?_
       rw[←HW3.out])
    | fail)
  rw[←HW4.out]
  clear hAa'
  go_loopw [5,6] (fun pv i wr=>∃(l k:Nat) (P:List Pr),i=.int .i64 l∧l+k=41∧1≤l∧Hid (Lvl wr k lo hi pv P)∧Hid (bfs k P=R)∧Hid (Below w.heap.size w wr)) (fun _ i _=>41-(intOf i).toNat)
  case atStart=>exact ⟨1,40,_,rfl,rfl,Nat.le_refl _,HL0,HR0,HB⟩
  case round =>
    clear HL0 HR0 HB HAb HAb2 HW1 HW2 HW3 HW4
    obtain ⟨l,k,P,rfl,hlk,hl1,HL,HR,HB⟩:=hrel
    obtain ⟨A,cap,rfl,hrow⟩:=HL.out.arg
    have hPl:=HL.out.lens
    by_cases h0:P.length=0
    · obtain rfl:P=[]:=List.eq_nil_of_length_eq_zero h0
      have HRt:Hid (R=true):=Lib.hid (by rw[←HR.out];exact bfs_nil k)
      have hk4:k=0∨1≤k:=by omega
      rcases hk4 with hk4 | hk4
      · have d1:decide ((l:Int)≤40)=false:=decide_eq_false (by omega)
        clear hrow h0
        go_wp2_with fail
        go_ret
        exact ⟨ret_bool HRt.out.symm,HB.out⟩
      · have d1:decide ((l:Int)≤40)=true:=decide_eq_true (by omega)
        clear hrow h0
        go_wp2_with fail
        go_ret
        exact ⟨ret_bool HRt.out.symm,HB.out⟩
    · obtain ⟨k,rfl⟩:∃k',k=k'+1:=by
        cases k with
        | zero=>have:=HL.out.zero;subst this;exact absurd rfl h0
        | succ k=>exact ⟨k,rfl⟩
      have d1:decide ((l:Int)≤40)=true:=decide_eq_true (by omega)
      have hp0:(0:Int)<(P.length:Int):=by omega
      have hp0d:decide ((0:Int)<(P.length:Int))=true:=decide_eq_true hp0
      have hp0e:decide (0<P.length)=true:=decide_eq_true (by omega)
      have d1e:decide (l≤40)=true:=decide_eq_true (by omega)
      have HRow:=Lib.hid hrow
      have H0:=Lib.hid h0
      obtain ⟨wo,hwo⟩:∃wo,wo=wr:=⟨_,rfl⟩
      rw[←hwo] at HL HB HRow ⊢
      clear hwo hrow h0
      go_wp2_with fail
      go_loopw [26] (fun i wr=>∃d:Nat,d≤P.length∧i=.int .i64 d∧Hid (Below wo.heap.size wo wr)∧Hid ((P.take d).all (fun p=>okL p.ms p.ns)=true)) (fun i _=>P.length-(intOf i).toNat)
      case atStart=>exact ⟨0,Nat.zero_le _,rfl,Lib.hid (Below.refl _ _),Lib.hid (by rw[List.take_zero];rfl)⟩
      case round =>
        obtain ⟨d,hd,rfl,HBd,HAll⟩:=hrel
        by_cases hlt:d<P.length
        · obtain ⟨b1,o1,rfl,hb1,hr1⟩:=HRow.out (by omega)
          have HX:=Lib.hid (range_below (hr1 d hlt) hb1 (Nat.le_refl _) HBd.out)
          have hpa:=(HL.out.a _ (List.getElem_mem hlt)).next HBd.out
          have hpb:=(HL.out.b _ (List.getElem_mem hlt)).next HBd.out
          have hla:=HL.out.len (List.getElem_mem hlt)
          have hlb:=HL.out.massb _ (List.getElem_mem hlt)
          have hdz:(0:Int)≤(d:Int):=by omega
          have hdn:(d:Int)<(P.length:Int):=by omega
          have HTk:Hid ((P.take (d+1)).all (fun p=>okL p.ms p.ns)=((P.take d).all (fun p=>okL p.ms p.ns)&&okL P[d].ms P[d].ns)):=Lib.hid (by rw[List.take_succ_eq_append_getElem hlt,List.all_append];simp)
          have HNo:Hid (okL P[d].ms P[d].ns=false→P.all (fun p=>okL p.ms p.ns)=false):=Lib.hid (fun e=>all_take_no hlt e)
          generalize P[d]=p at HX hpa hpb hla hlb HTk HNo
          obtain ⟨u,ms,v,ns⟩:=p
          have hpa:PL wr (k+1) u ms:=hpa
          have hpb:PL wr (k+1) v ns:=hpb
          obtain ⟨_,_,_,hu,_⟩:=id hpa
          obtain ⟨_,_,_,hv,_⟩:=id hpb
          have hone2:(#[u,v]:Array Value).all (·.oneCell')=true:=by rw[hu,hv];simp[Value.oneCell']
          obtain ⟨w5,hw5⟩:∃w5,w5=(wr.alloc (.cells #[.slice none 0 0,.slice none 0 0] 80)).setRow wr.heap.size #[u,v]:=⟨_,rfl⟩
          have hb5:Below wr.heap.size wr w5:=by rw[hw5];exact ((Below.refl _ _).alloc (Nat.le_refl _) _).trans ((Only.row _ _ _).below (Nat.le_refl _))
          have hA5:At w5 wr.heap.size 80 #[u,v]:=by rw[hw5];exact At.row (At.new wr 80 #[.slice none 0 0,.slice none 0 0]) _
          have x0:w5.cell? ⟨wr.heap.size,0,none⟩=some u:=hA5.cell 0
          have x1:w5.cell? ⟨wr.heap.size,1,none⟩=some v:=hA5.cell 1
          have HEq:=Lib.hid (tEqRe (k+1) u v ms ns w5 (hpa.next hb5) (hpb.next hb5) hla hlb)
          have HB5:=Lib.hid (HBd.out.trans (hb5.mono HBd.out.size))
          have HW5:=Lib.hid hw5
          clear hb1 hr1 hpa hpb hla hlb hu hv hw5 hb5 hA5
          go_wp2_with (first
            | (with_reducible show wpList _ _ _ (⟨some _,.load 80 _,_,_,_,_⟩::_) _ _
               refine wpList_load_mid rfl 80 _ rfl b1 (o1+d*2) rfl [u,v] _ HX.out Tryz.underlying80 rfl (by kernel_rfl) ?_)
            | (with_reducible show wpList _ _ _ (⟨none,.store 80 _ _,_,_,_,_⟩::_) _ _
               refine wpList_store_row rfl 80 _ _ rfl wr.heap.size #[u,v] rfl rfl 80 #[.slice none 0 0,.slice none 0 0] (At.new _ _ _) (by kernel_rfl) rfl hone2 ?_
               rw[←HW5.out])
            | fail)
          refine HEq.out.mono ?_
          rintro e w6 ⟨rfl,hb6⟩
          have HB6:=Lib.hid (HB5.out.trans (hb6.mono HB5.out.size))
          clear hb6 x0 x1
          obtain ⟨r,hrr⟩:∃r,r=okL ms ns:=⟨_,rfl⟩
          have HRr:=Lib.hid hrr
          rw[←hrr]
          clear hrr
          cases r with
          | true =>
            go_wp2_with fail
            exact ⟨⟨d+1,by omega,by go_num,HB6,Lib.hid (by rw[HTk.out,HAll.out];exact HRr.out.symm)⟩,by simp[intOf];omega⟩
          | false =>
            have HF:Hid (R=false):=Lib.hid (by
              rw[←HR.out]
              unfold bfs
              rw[HNo.out HRr.out.symm,Bool.false_and,Bool.or_false]
              cases P with
              | nil=>exact absurd rfl H0.out
              | cons _ _=>rfl)
            go_wp2_with fail
            go_ret
            exact ⟨ret_bool HF.out.symm,HB.out.trans (HB6.out.mono HB.out.size)⟩
        · obtain rfl:d=P.length:=by omega
          have hall:P.all (fun p=>okL p.ms p.ns)=true:=by have h:=HAll.out;rw[List.take_length] at h;exact h
          have HL2:=Lib.hid (HL.out.next HBd.out)
          have HPB:=Lib.hid (tPairsBelow k lo hi (.slice A P.length cap) P wr HL2.out.arg (HL2.out.ok hall) HL2.out.own (Nat.le_trans (len_mass (k+1) P) HL2.out.mass) hPl)
          have HAl:=Lib.hid hall
          have HRn:Hid (bfs k (nextP P)=R):=Lib.hid (by
            rw[←HR.out]
            show _=(P.isEmpty||(P.all (fun p=>okL p.ms p.ns)&&bfs k (nextP P)))
            rw[hall,Bool.true_and]
            cases P with
            | nil=>exact absurd rfl H0.out
            | cons _ _=>rfl)
          clear hall
          go_wp2_with fail
          refine HPB.out.mono ?_
          rintro e w6 ⟨v',rfl,harg,hb6⟩
          have HL3:=Lib.hid (HL2.out.step HAl.out hb6 harg)
          have HB6:=Lib.hid ((HB.out.trans (HBd.out.mono HB.out.size)).trans (hb6.mono (Nat.le_trans HB.out.size HBd.out.size)))
          clear hb6 harg
          go_wp2_with fail
          exact ⟨⟨l+1,k,nextP P,by go_num,by omega,by omega,HL3,HRn,HB6⟩,by simp[intOf];omega⟩
end Go.Proofs.YtgmpfnfomgadeaaGreat

/- How many nodes a pattern has, as the laws count them. -/
set_option maxHeartbeats 2000000
set_option maxRecDepth 100000
namespace Go.Proofs.YtgmpfnfomgadeaaGreat
open Go.RowKit
def cfold:List Int→Int→Int
  | [],n=>n
  | x::r,n=>if 2000<n+x then n+x else cfold r (n+x)
def nodesS:Nat→Int→Tr→Int
  | 0,_,_=>0
  | k+1,m,t=>if m<1 then 5000 else cfold (t.parts.map (nodesS k (m-1))) 1
theorem cfold_bounds (B:Int) (hB:0≤B):∀(l:List Int) (n:Int),(∀x∈l,0≤x∧x≤B)→0≤n→n≤2000→n≤cfold l n∧cfold l n≤2000+B
  | [],n,_,h0,h1=>⟨Int.le_refl _,by show n≤_;omega⟩
  | x::r,n,h,h0,h1=>by
    have hx:=h x (by simp)
    rw[show cfold (x::r) n=if 2000<n+x then n+x else cfold r (n+x) from rfl]
    split
    · omega
    · have:=cfold_bounds B hB r (n+x) (fun y hy=>h y (List.mem_cons_of_mem _ hy)) (by omega) (by omega)
      omega
theorem nodesS_bounds:∀(k:Nat) (m:Int) (t:Tr),0≤m→0≤nodesS k m t∧nodesS k m t≤5000+2000*m
  | 0,m,_,h=>by show (0:Int)≤0∧(0:Int)≤_;omega
  | k+1,m,t,h=>by
    rw[show nodesS (k+1) m t=if m<1 then 5000 else cfold (t.parts.map (nodesS k (m-1))) 1 from rfl]
    split
    · omega
    · have:=cfold_bounds (5000+2000*(m-1)) (by omega) (t.parts.map (nodesS k (m-1))) 1 (by
        intro x hx
        rw[List.mem_map] at hx
        obtain ⟨p,_,rfl⟩:=hx
        exact nodesS_bounds k (m-1) p (by omega)) (by omega) (by omega)
      omega
theorem cfold_at {k:Nat} {m n:Int} {t:Tr} {j:Nat} (h:j<t.parts.length):cfold ((t.parts.drop j).map (nodesS k m)) n=if 2000<n+nodesS k m t.parts[j] then n+nodesS k m t.parts[j] else cfold ((t.parts.drop (j+1)).map (nodesS k m)) (n+nodesS k m t.parts[j]):=by
  rw[List.drop_eq_getElem_cons h,List.map_cons];rfl
theorem nodesS_deep {k:Nat} {m:Int} {t:Tr} (h:m<1):nodesS (k+1) m t=5000:=by show (if _ then _ else _)=_;rw[if_pos h]
theorem nodesS_is {k:Nat} {m:Int} {t:Tr} (h:¬m<1):cfold ((t.parts.drop 0).map (nodesS k (m-1))) 1=nodesS (k+1) m t:=by
  rw[List.drop_zero];show _=(if _ then _ else _);rw[if_neg h]
theorem lawCount:∀(k:Nat) (m:Int) (t:Tr) (w:World),0≤m→m≤1000→Tr.In w k t →
    Calls Tryz.prog 17 #[.agg t.cs.toArray,.int .i64 m] w fun e w'=>e=.returned (.int .i64 (nodesS k m t))∧Below w.heap.size w w'
  | 0,_,_,_,_,_,h=>h.elim
  | k+1,m,t,w,h0,h1,h=>by
    have hlen:t.parts.length≤9223372036854775807:=by have:=h.2.1;omega
    have hn:=h.2.1.1
    have HI:=Lib.hid h
    have HC:=Lib.hid (At.tr_cell (At.new w 27 t.cs.toArray))
    clear h
    have hcell:=HC.out.2.1
    go_enter Tryz.func17,Tryz.ntmps17
    by_cases hm:m<1
    · have hS:=Lib.hid (nodesS_deep (k:=k) (t:=t) hm)
      go_wp2_with fail
      go_ret
      exact ⟨ret_int hS.out.symm,(Below.refl _ _).alloc (Nat.le_refl _) _⟩
    · have HM:=Lib.hid (nodesS_is (k:=k) (t:=t) hm)
      have hm1:1≤m:=by omega
      go_wp2_with fail
      go_loopw [5,12] (fun x i wr=>∃(j:Nat) (n:Int),j≤t.parts.length∧i=.int .i64 j∧x=.int .i64 n∧(1≤n∧n≤2000)∧Hid (cfold ((t.parts.drop j).map (nodesS k (m-1))) n=nodesS (k+1) m t)∧Hid (At wr w.heap.size 27 t.cs.toArray)∧Hid (Below w.heap.size w wr)) (fun _ i _=>t.parts.length-(intOf i).toNat)
      case atStart=>exact ⟨0,1,Nat.zero_le _,rfl,rfl,by omega,HM,Lib.hid (At.new _ _ _),Lib.hid ((Below.refl _ _).alloc (Nat.le_refl _) _)⟩
      case round =>
        obtain ⟨j,n,hj,rfl,rfl,⟨hn1,hn2⟩,hF,hA,hB⟩:=hrel
        clear hcell
        by_cases hlt:j<t.parts.length
        · have hcell:=(At.tr_cell hA.out).2.1
          obtain ⟨b,off,ha,hb,hr⟩:=HI.out.2.2.1 (by rw[hn];omega)
          have HR:=Lib.hid (range_below (hr j hlt) hb (Nat.le_refl _) hB.out)
          have HP:=Lib.hid (Tr.In.next (HI.out.2.2.2 j hlt) hB.out)
          have hf:=hF.out
          rw[cfold_at hlt] at hf
          obtain ⟨he0,he1⟩:=nodesS_bounds k (m-1) t.parts[j] (by omega)
          obtain ⟨y,hy⟩:∃y:Int,nodesS k (m-1) t.parts[j]=y:=⟨_,rfl⟩
          rw[hy] at he0 he1 hf
          have HY:=Lib.hid hy
          have HG:=Lib.hid hf
          clear hy hr hb hf
          rw[ha] at hcell
          clear ha
          have hjz:(0:Int)≤(j:Int):=by omega
          have hjn:(j:Int)<(t.parts.length:Int):=by omega
          go_wp2_with (refine wpList_load_mid rfl 27 _ rfl b (off+j*9) rfl t.parts[j].cs _ HR.out Tryz.underlying27 rfl (by rw[Tr.cs_length];kernel_rfl) ?_)
          refine (lawCount k (m-1) t.parts[j] _ (by omega) (by omega) HP.out).mono ?_
          rintro e w3 ⟨rfl,hb3⟩
          rw[HY.out]
          have HA:=Lib.hid (hA.out.step hb3 rfl)
          have HB:=Lib.hid (below_step hB.out hb3 rfl rfl rfl rfl)
          clear hb3 hcell
          by_cases hg:2000<n+y
          · have hd:=dec_t hg
            have HG2:Hid (n+y=nodesS (k+1) m t):=by have h:=HG.out;rw[if_pos hg] at h;exact h
            go_wp2_with fail
            go_ret
            exact ⟨ret_int HG2.out,HB.out⟩
          · have hd:=dec_f hg
            have HG2:Hid (cfold ((t.parts.drop (j+1)).map (nodesS k (m-1))) (n+y)=nodesS (k+1) m t):=by have h:=HG.out;rw[if_neg hg] at h;exact h
            go_wp2_with fail
            exact ⟨⟨j+1,n+y,by omega,by go_num,rfl,by omega,HG2,HA,HB⟩,by simp[intOf];omega⟩
        · obtain rfl:j=t.parts.length:=by omega
          have hf:=hF.out
          rw[List.drop_length] at hf
          have HG:Hid (n=nodesS (k+1) m t):=hf
          clear hf
          go_wp2_with fail
          go_ret
          exact ⟨ret_int HG.out,hB.out⟩
theorem lawFew (k:Nat) (m:Int) (t:Tr) (w:World) (h0:0≤m) (h1:m≤1000) (h:Tr.In w k t) :
    Calls Tryz.prog 5 #[.agg t.cs.toArray,.int .i64 m] w fun e w'=>e=.returned (.bool (decide (nodesS k m t≤2000)))∧Below w.heap.size w w':=by
  have HI:=Lib.hid h
  clear h
  go_enter Tryz.func5,Tryz.ntmps5
  go_wp2_with (first | (refine wpList_load_row rfl 27 _ rfl w.heap.size rfl 27 t.cs.toArray (0,0) _ (At.new w 27 t.cs.toArray) Tryz.underlying27 rfl (by kernel_rfl) ?_) | fail)
  have hB:Below w.heap.size w (w.alloc (Obj.cells t.cs.toArray 27)):=(Below.refl _ _).alloc (Nat.le_refl _) _
  refine (lawCount k m t _ h0 h1 (HI.out.next hB)).mono ?_
  rintro e w1 ⟨rfl,hb1⟩
  go_wp2_with fail
  go_ret
  exact ⟨rfl,below_step hB hb1 rfl rfl rfl rfl⟩
end Go.Proofs.YtgmpfnfomgadeaaGreat

/- A pattern that the laws look at has few parts everywhere. No program is walked here. -/
namespace Go.Proofs.YtgmpfnfomgadeaaGreat
open Go.RowKit
theorem nodesS_pos {w:World}:∀(k:Nat) (m:Int) (t:Tr),Tr.In w k t→0≤m→1≤nodesS k m t
  | 0,_,_,h,_=>h.elim
  | k+1,m,t,h,hm=>by
    rw[show nodesS (k+1) m t=if m<1 then 5000 else cfold (t.parts.map (nodesS k (m-1))) 1 from rfl]
    split
    · omega
    · have:=cfold_bounds (5000+2000*(m-1)) (by omega) (t.parts.map (nodesS k (m-1))) 1 (by
        intro x hx
        rw[List.mem_map] at hx
        obtain ⟨p,_,rfl⟩:=hx
        exact nodesS_bounds k (m-1) p (by omega)) (by omega) (by omega)
      omega
theorem cfold_few:∀(l:List Int) (n:Int),(∀x∈l,1≤x)→cfold l n≤2000→(l.length:Int)+n≤2000∧∀x∈l,1≤n→x≤2000
  | [],n,_,h=>by
    have:n≤2000:=h
    exact ⟨by simp;omega,fun x hx=>by cases hx⟩
  | x::r,n,hl,h=>by
    have hx:=hl x (by simp)
    have h':(if 2000<n+x then n+x else cfold r (n+x))≤2000:=h
    split at h'
    · omega
    · have ih:=cfold_few r (n+x) (fun y hy=>hl y (List.mem_cons_of_mem _ hy)) h'
      refine ⟨by rw[List.length_cons];have:=ih.1;omega,fun y hy hn=>?_⟩
      rcases List.mem_cons.1 hy with rfl | hy
      · omega
      · exact ih.2 y hy (by omega)
theorem few_slim {w:World}:∀(k:Nat) (m:Int) (t:Tr),Tr.In w k t→0≤m→nodesS k m t≤2000→slimS k t
  | 0,_,_,_,_,_=>trivial
  | k+1,m,t,h,hm,hc=>by
    rw[show nodesS (k+1) m t=if m<1 then 5000 else cfold (t.parts.map (nodesS k (m-1))) 1 from rfl] at hc
    split at hc
    · omega
    · have hin:∀p∈t.parts,Tr.In w k p:=fun p hp=>by
        obtain ⟨j,hj,rfl⟩:=List.getElem_of_mem hp
        exact h.2.2.2 j hj
      obtain ⟨h1,h2⟩:=cfold_few _ 1 (by
        intro x hx
        rw[List.mem_map] at hx
        obtain ⟨p,hp,rfl⟩:=hx
        exact nodesS_pos k (m-1) p (hin p hp) (by omega)) hc
      rw[List.length_map] at h1
      exact ⟨by omega,fun p hp=>few_slim k (m-1) p (hin p hp) (by omega) (h2 _ (List.mem_map.2 ⟨p,hp,rfl⟩) (by omega))⟩
end Go.Proofs.YtgmpfnfomgadeaaGreat
