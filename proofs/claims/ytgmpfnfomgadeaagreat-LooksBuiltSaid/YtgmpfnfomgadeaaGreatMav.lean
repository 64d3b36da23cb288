/- Joined: ArenaMid, NormEasy, NormCatM. -/
import Derived.Test.YtgmpfnfomgadeaaGreatMae
import Derived.Test.YtgmpfnfomgadeaaGreatMaf
import Derived.Test.YtgmpfnfomgadeaaGreatMau
/- What an arena does that nodes are put together by: without New; and one whose map stays in its block. -/
set_option linter.unusedVariables false
namespace Go.Proofs.YtgmpfnfomgadeaaGreat
open Go.RowKit
structure ArenaMid (AA:World→Value→List Nd→(Nat→Prop)→Prop):Prop where
  low:∀{w:World} {a:Value} {ns:List Nd} {F:Nat→Prop},AA w a ns F→∀b,F b→b<w.heap.size
  keep:∀{w w':World} {a:Value} {ns:List Nd} {F:Nat→Prop},AA w a ns F→(∀b,F b→w'.heap[b]?=w.heap[b]?)→AA w' a ns F
  fine:∀{w:World} {a:Value} {ns:List Nd} {F:Nat→Prop},AA w a ns F→FineN ns
  max:∀{w:World} {a:Value} {ns:List Nd} {F:Nat→Prop},AA w a ns F→ns.length≤20000
  ptr:∀{w:World} {a:Value} {ns:List Nd} {F:Nat→Prop},AA w a ns F→∃g,a=.pointer (some ⟨g,0,none⟩)
  put:∀{w:World} {a:Value} {ns:List Nd} {F:Nat→Prop} (x:Nd),AA w a ns F→NdFit x→ns.length<20000→Calls Tryz.prog 84 #[a,.agg x.cs.toArray] w fun e w'=>∃F',e=.returned (.tuple #[.int .i64 (putId ns x),.int .i64 (putE ns x)])∧AA w' a (putS ns x) F'∧(∀b,F' b→F b∨w.heap.size≤b)∧OffF F w w'
  putNo:∀{w:World} {a:Value} {ns:List Nd} {F:Nat→Prop} (x:Nd),AA w a ns F→NdFit x→x.right ns.length=false→Calls Tryz.prog 84 #[a,.agg x.cs.toArray] w fun e w'=>e=.returned (.tuple #[.int .i64 0,.int .i64 1])∧Below w.heap.size w w'
  len:∀{w:World} {a:Value} {ns:List Nd} {F:Nat→Prop},AA w a ns F→Calls Tryz.prog 11 #[a] w fun e w'=>e=.returned (.int .i64 ns.length)∧w'=w
  node:∀{w:World} {a:Value} {ns:List Nd} {F:Nat→Prop} (i:Int),AA w a ns F→I64 i→Calls Tryz.prog 31 #[a,.int .i64 i] w fun e w'=>∃y:Nd,e=.returned (.tuple #[.agg y.cs.toArray,.bool (decide (0≤i∧i<ns.length))])∧(0≤i∧i<ns.length→y=ndAt ns i.toNat)∧Below w.heap.size w w'∧(¬(0≤i∧i<ns.length)→y=Nd.zero)
structure ArenaMap (AA:World→Value→List Nd→(Nat→Prop)→Prop):Prop extends ArenaMid AA where
  part:∀{w:World} {a:Value} {ns:List Nd} {F:Nat→Prop},AA w a ns F→0<ns.length→∃(AB:World→Value→List Nd→(Nat→Prop)→Prop) (m:Nat),ArenaMid AB∧AB w a ns F∧m<w.heap.size∧(∀{w:World} {a:Value} {ns:List Nd} {F:Nat→Prop},AB w a ns F→AA w a ns F)∧(∀{w:World} {a:Value} {ns:List Nd} {F:Nat→Prop} {b:Nat} {o:Obj},AB w a ns F→F b→w.heap[b]?=some o→(∀cs t p,o≠.cells cs t p)→b=m)
section
variable {AA:World→Value→List Nd→(Nat→Prop)→Prop}
theorem ArenaMid.next (S:ArenaMid AA) {w w':World} {a:Value} {ns:List Nd} {F:Nat→Prop} (h:AA w a ns F) (hb:Below w.heap.size w w'):AA w' a ns F:=S.keep h (fun b q=>hb.block b (S.low h b q))
theorem ArenaMid.nodeIn (S:ArenaMid AA) {w:World} {a:Value} {ns:List Nd} {F:Nat→Prop} (i:Int) (h:AA w a ns F) (hi:I64 i):Calls Tryz.prog 31 #[a,.int .i64 i] w fun e w'=>∃y:Nd,e=.returned (.tuple #[.agg y.cs.toArray,.bool (decide (0≤i∧i<ns.length))])∧(0≤i∧i<ns.length→y=ndAt ns i.toNat)∧Below w.heap.size w w' :=
  (S.node i h hi).mono (fun _ _ ⟨y,h1,h2,h3,_⟩=>⟨y,h1,h2,h3⟩)
end
end Go.Proofs.YtgmpfnfomgadeaaGreat

/- The easy ones of norm: put, None, Empty, Look, Not. -/
set_option linter.unusedSimpArgs false
set_option linter.unusedVariables false
set_option maxHeartbeats 4000000
set_option maxRecDepth 100000
namespace Go.Proofs.YtgmpfnfomgadeaaGreat
open Go.RowKit
section
variable {AA:World→Value→List Nd→(Nat→Prop)→Prop}
theorem Grows.mono {w:World} {a:Value} {ns:List Nd} {F:Nat→Prop} {R R':List Nd→Int→Prop} {e:Ending} {w':World} (g:Grows AA w a ns F R e w') (h:∀more r,R more r→R' more r):Grows AA w a ns F R' e w':=by
  obtain ⟨r,more,F',g0,g1,g2,g3,g4,g5,g6⟩:=g
  exact ⟨r,more,F',g0,g1,g2,g3,g4,g5,h more r g6⟩
theorem Grows.from {w w1 w':World} {a:Value} {ns:List Nd} {F:Nat→Prop} {R:List Nd→Int→Prop} {e:Ending} (g:Grows AA w1 a ns F R e w') (hb:Below w.heap.size w w1):Grows AA w a ns F R e w':=by
  obtain ⟨r,more,F',g0,g1,g2,g3,g4,g5,g6⟩:=g
  refine ⟨r,more,F',g0,g1,fun b q=>?_,(OffF.of hb).off g3 (fun b q=>Or.inl q),g4,g5,g6⟩
  rcases g2 b q with q | q
  · exact Or.inl q
  · exact Or.inr (Nat.le_trans hb.size q)
theorem fit_small (k a b:Int) (neg:Bool) (hk:I64 k) (ha:I64 a) (hb:I64 b):NdFit (Nd.mk k noSt a b neg):=⟨hk,⟨by unfold U64;exact Nat.zero_lt_succ _,by unfold U64;exact Nat.zero_lt_succ _,by unfold U64;exact Nat.zero_lt_succ _,by unfold U64;exact Nat.zero_lt_succ _⟩,ha,hb⟩
def PutR (ns:List Nd) (x:Nd) (more:List Nd) (r:Int):Prop:=ndAt (ns++more) r.toNat=x∧more.length≤1∧(isIn ns r→more=[])
def putR (ns:List Nd) (x:Nd):Int:=if x.right ns.length then putId ns x else -1
theorem nPutRaw (S:ArenaMid AA) {w:World} {a:Value} {ns:List Nd} {F:Nat→Prop} (x:Nd) (h:AA w a ns F) (hx:NdFit x) (hroom:ns.length<20000) :
    Calls Tryz.prog 68 #[a,.agg x.cs.toArray] w fun e w'=>∃F',e=.returned (.int .i64 (putR ns x))∧AA w' a (putS ns x) F'∧(∀b,F' b→F b∨w.heap.size≤b)∧OffF F w w':=by
  have HB:Hid (Below w.heap.size w (w.alloc (.cells x.cs.toArray 61))):=Lib.hid ((Below.refl _ _).alloc (Nat.le_refl _) _)
  obtain ⟨c0,c1,c2,c3,c4,c5,c6,c7⟩:=Nd.cells (At.new w 61 x.cs.toArray)
  have HP:Hid (Calls Tryz.prog 84 #[a,.agg #[.int .i64 x.kind,.int .u64 x.set.w0,.int .u64 x.set.w1,.int .u64 x.set.w2,.int .u64 x.set.w3,.int .i64 x.a,.int .i64 x.b,.bool x.neg]] (w.alloc (.cells x.cs.toArray 61)) fun e w'=>∃F',e=.returned (.tuple #[.int .i64 (putId ns x),.int .i64 (putE ns x)])∧AA w' a (putS ns x) F'∧(∀b,F' b→F b∨(w.alloc (.cells x.cs.toArray 61)).heap.size≤b)∧OffF F (w.alloc (.cells x.cs.toArray 61)) w'):=Lib.hid (S.put x (S.next h HB.out) hx hroom)
  have HG:Hid (∀w1 F',AA w1 a (putS ns x) F'→(∀b,F' b→F b∨(w.alloc (.cells x.cs.toArray 61)).heap.size≤b)→OffF F (w.alloc (.cells x.cs.toArray 61)) w1→∃F',AA w1 a (putS ns x) F'∧(∀b,F' b→F b∨w.heap.size≤b)∧OffF F w w1):=Lib.hid (fun w1 F' h1 h2 h3=>⟨F',h1,fun b q=>by
    rcases h2 b q with q | q
    · exact Or.inl q
    · exact Or.inr (Nat.le_trans HB.out.size q),(OffF.of HB.out).off h3 (fun b q=>Or.inl q)⟩)
  clear h hx
  cases hr:x.right ns.length
  · have HE:Hid (putE ns x=1):=Lib.hid (by unfold putE;rw[if_neg (by rw[hr];simp)])
    have HR:Hid (putR ns x=-1):=Lib.hid (by unfold putR;rw[if_neg (by rw[hr];simp)])
    clear hr
    go_enter Tryz.func68,Tryz.ntmps68
    go_wp2_with fail
    refine HP.out.mono ?_
    rintro e w1 ⟨F',rfl,hA1,hF1,ho1⟩
    rw[HE.out]
    have HH:=Lib.hid (HG.out w1 F' hA1 hF1 ho1)
    clear hA1 hF1 ho1
    go_wp2_with fail
    go_ret
    obtain ⟨F2,q1,q2,q3⟩:=HH.out
    exact ⟨F2,by rw[HR.out];rfl,q1,q2,q3⟩
  · have HE:Hid (putE ns x=0):=Lib.hid (by unfold putE;rw[if_pos hr])
    have HR:Hid (putR ns x=putId ns x):=Lib.hid (by unfold putR;rw[if_pos hr])
    clear hr
    go_enter Tryz.func68,Tryz.ntmps68
    go_wp2_with fail
    refine HP.out.mono ?_
    rintro e w1 ⟨F',rfl,hA1,hF1,ho1⟩
    rw[HE.out]
    have HH:=Lib.hid (HG.out w1 F' hA1 hF1 ho1)
    clear hA1 hF1 ho1
    go_wp2_with fail
    go_ret
    obtain ⟨F2,q1,q2,q3⟩:=HH.out
    exact ⟨F2,by rw[HR.out];rfl,q1,q2,q3⟩
theorem nPut (S:ArenaMid AA) {w:World} {a:Value} {ns:List Nd} {F:Nat→Prop} (x:Nd) (h:AA w a ns F) (hc:Canon ns) (hx:NdFit x) (hr:x.right ns.length=true) (hl:Fits ns x) (hroom:ns.length<20000) :
    Calls Tryz.prog 68 #[a,.agg x.cs.toArray] w (Grows AA w a ns F (PutR ns x)):=by
  refine (nPutRaw S x h hx hroom).mono ?_
  rintro e w1 ⟨F',rfl,hA1,hF1,ho1⟩
  obtain ⟨k1,k2,k3,⟨more,km,kl⟩,k5⟩:=canon_put hc hr hx hl
  rw[km] at hA1 k1 k2 k3
  refine ⟨_,more,F',by unfold putR;rw[if_pos hr],hA1,hF1,ho1,k1,k2,k3,kl,fun q=>?_⟩
  have:=k5 q
  rw[km] at this
  exact List.append_right_eq_self.1 this
theorem fits_bare {ns:List Nd} {k:Int} {neg:Bool} {a b:Int} {s:St} (h2:k≠2) (h3:k≠3) (h4:k≠4) (h5:k≠5) (h6:k≠6) (h7:k≠7):Fits ns ⟨k,s,a,b,neg⟩:=
  ⟨fun q=>absurd q h3,fun k' hk' q=>by dsimp only at q;omega,fun q=>absurd q h6,fun q=>absurd q h7,fun q=>absurd q h2⟩
theorem nNone (S:ArenaMid AA) {w:World} {a:Value} {ns:List Nd} {F:Nat→Prop} (h:AA w a ns F) (hc:Canon ns) (hroom:ns.length+4≤20000):Calls Tryz.prog 52 #[a] w (Grows AA w a ns F fun more r=>kd (ns++more) r=0∧more.length≤1∧(isIn ns r→more=[])):=by
  have HP:=Lib.hid (nPut S ⟨0,noSt,0,0,false⟩ h hc (fit_small _ _ _ _ (by unfold I64;omega) (by unfold I64;omega) (by unfold I64;omega)) (by unfold Nd.right;rw[if_pos (Or.inl rfl)];exact Nd.eqb_self _) (fits_bare (by decide) (by decide) (by decide) (by decide) (by decide) (by decide)) (by omega))
  clear h hc
  go_enter Tryz.func52,Tryz.ntmps52
  go_wp2_with fail
  refine HP.out.mono ?_
  rintro e w1 g
  obtain ⟨r,_,_,rfl,_⟩:=id g
  have HG:=Lib.hid (g.mono (R':=fun more r=>kd (ns++more) r=0∧more.length≤1∧(isIn ns r→more=[])) (fun more r q=>⟨by unfold kd;rw[q.1],q.2⟩))
  clear g
  go_wp2_with fail
  go_ret
  exact HG.out
theorem nEmpty (S:ArenaMid AA) {w:World} {a:Value} {ns:List Nd} {F:Nat→Prop} (h:AA w a ns F) (hc:Canon ns) (hroom:ns.length+4≤20000):Calls Tryz.prog 53 #[a] w (Grows AA w a ns F fun more r=>kd (ns++more) r=1∧more.length≤1∧(isIn ns r→more=[])):=by
  have HP:=Lib.hid (nPut S ⟨1,noSt,0,0,false⟩ h hc (fit_small _ _ _ _ (by unfold I64;omega) (by unfold I64;omega) (by unfold I64;omega)) (by unfold Nd.right;rw[if_pos (Or.inr rfl)];exact Nd.eqb_self _) (fits_bare (by decide) (by decide) (by decide) (by decide) (by decide) (by decide)) (by omega))
  clear h hc
  go_enter Tryz.func53,Tryz.ntmps53
  go_wp2_with fail
  refine HP.out.mono ?_
  rintro e w1 g
  obtain ⟨r,_,_,rfl,_⟩:=id g
  have HG:=Lib.hid (g.mono (R':=fun more r=>kd (ns++more) r=1∧more.length≤1∧(isIn ns r→more=[])) (fun more r q=>⟨by unfold kd;rw[q.1],q.2⟩))
  clear g
  go_wp2_with fail
  go_ret
  exact HG.out
theorem fits_not {ns:List Nd} {x:Int} (h:kd ns x≠6):Fits ns (Nd.mk 6 noSt x 0 false) where
  cat:=fun q=>absurd q (show ¬(6:Int)=3 by decide)
  join:=fun k hk q=>by have q:(6:Int)=k:=q;omega
  not:=fun _=>h
  star:=fun q=>absurd q (show ¬(6:Int)=7 by decide)
  bytes:=fun q=>absurd q (show ¬(6:Int)=2 by decide)
theorem fits_star {ns:List Nd} {x:Int} (h0:kd ns x≠0) (h1:kd ns x≠1) (h7:kd ns x≠7):Fits ns (Nd.mk 7 noSt x 0 false) where
  cat:=fun q=>absurd q (show ¬(7:Int)=3 by decide)
  join:=fun k hk q=>by have q:(7:Int)=k:=q;omega
  not:=fun q=>absurd q (show ¬(7:Int)=6 by decide)
  star:=fun _=>⟨h0,h1,h7⟩
  bytes:=fun q=>absurd q (show ¬(7:Int)=2 by decide)
theorem fits_bytes {ns:List Nd} {s:St} (h:∃b,b<256∧s.has b=true):Fits ns (Nd.mk 2 s 0 0 false) where
  cat:=fun q=>absurd q (show ¬(2:Int)=3 by decide)
  join:=fun k hk q=>by have q:(2:Int)=k:=q;omega
  not:=fun q=>absurd q (show ¬(2:Int)=6 by decide)
  star:=fun q=>absurd q (show ¬(2:Int)=7 by decide)
  bytes:=fun _=>h
theorem fits_cat {ns:List Nd} {x y:Int} (hx:kd ns x≠0∧kd ns x≠1∧kd ns x≠3) (h0:kd ns y≠0) (h1:kd ns y≠1):Fits ns (Nd.mk 3 noSt x y false) where
  cat:=fun _=>⟨hx,h0,h1⟩
  join:=fun k hk q=>by have q:(3:Int)=k:=q;omega
  not:=fun q=>absurd q (show ¬(3:Int)=6 by decide)
  star:=fun q=>absurd q (show ¬(3:Int)=7 by decide)
  bytes:=fun q=>absurd q (show ¬(3:Int)=2 by decide)
theorem one_right' {ns:List Nd} {k x:Int} (hk:k=6∨k=7) (hx:isIn ns x):(Nd.mk k noSt x 0 false).right ns.length=true:=by
  unfold isIn at hx
  unfold Nd.right aIn
  rw[if_neg (by dsimp only;omega),if_neg (by dsimp only;omega),if_neg (by dsimp only;omega),if_pos (by dsimp only;omega),Nd.eqb_self]
  dsimp only
  rw[decide_eq_true hx.1,decide_eq_true hx.2];rfl
theorem nNot (S:ArenaMid AA) {w:World} {a:Value} {ns:List Nd} {F:Nat→Prop} (x:Int) (h:AA w a ns F) (hc:Canon ns) (hx:isIn ns x) (hroom:ns.length<20000):Calls Tryz.prog 59 #[a,.int .i64 x] w (Grows AA w a ns F fun more r=>NotR (ns++more) x r∧more.length≤1∧(isIn ns r→more=[])):=by
  have hmx:=S.max h
  have HA:=Lib.hid h
  have HC:=Lib.hid hc
  have HX:=Lib.hid hx
  have hxI:I64 x:=by unfold isIn at hx;unfold I64;omega
  have HN:=Lib.hid (S.nodeIn x h hxI)
  have hdec:decide (0≤x∧x<(ns.length:Int))=true:=decide_eq_true hx
  clear h hc hx
  go_enter Tryz.func59,Tryz.ntmps59
  go_wp2_with fail
  refine HN.out.mono ?_
  rintro e w1 ⟨y,rfl,hy,hb1⟩
  have hy:=hy HX.out
  rw[hdec]
  have HB1:=Lib.hid hb1
  have HK:Hid (kd ns x=y.kind∧ka ns x=y.a):=Lib.hid ⟨by unfold kd;rw[←hy],by unfold ka;rw[←hy]⟩
  have hone:=Nd.one y
  have HXb:=Lib.hid (boxN_at w1 y)
  have HBb:=Lib.hid (HB1.out.trans ((boxN_next w1 y).mono HB1.out.size))
  have ck:=(Nd.cells HXb.out).1
  have c5:=(Nd.cells HXb.out).2.2.2.2.2.1
  clear hy hb1
  by_cases hk:y.kind=6
  · have HG:Hid (Grows AA w a ns F (fun more r=>NotR (ns++more) x r∧more.length≤1∧(isIn ns r→more=[])) (.returned (.int .i64 y.a)) (boxN w1 y)):=Lib.hid (by
      have k6:kd ns x=6:=by rw[HK.out.1,hk]
      have ia:=(in_one HC.out.fine HX.out (Or.inl k6)).1
      rw[HK.out.2] at ia
      refine ⟨y.a,[],F,rfl,by rw[List.append_nil];exact S.next HA.out HBb.out,fun b q=>Or.inl q,OffF.of HBb.out,by rw[List.append_nil];exact HC.out,by rw[List.append_nil];exact ia,?_,by simp,fun _=>rfl⟩
      rw[List.append_nil]
      exact ⟨ia,fun _=>HK.out.2.symm,fun q=>absurd k6 q⟩)
    rw[hk] at ck
    clear hk
    go_wp2_with (first
      | (with_reducible show wpList _ _ _ (⟨none,.store _ _ _,_,_,_,_⟩::_) _ _
         refine wpList_store_row rfl 61 _ _ rfl w1.heap.size y.cs.toArray rfl rfl 61 Nd.zero.cs.toArray (At.new _ _ _) (by kernel_rfl) rfl hone ?_
         first | change wpList _ _ _ _ _ (boxN w1 y) | change Exit.then _ _ _ _ (boxN w1 y))
      | fail)
    go_ret
    exact HG.out
  · have HP:=Lib.hid (nPut S ⟨6,noSt,x,0,false⟩ (S.next HA.out HBb.out) HC.out (fit_small _ _ _ _ (by unfold I64;omega) hxI (by unfold I64;omega)) (one_right' (Or.inl rfl) HX.out) (fits_not (by rw[HK.out.1];exact hk)) (by omega))
    have hkb:=(int_ne hk).1
    have HKn:=Lib.hid hk
    clear hk
    go_wp2_with (first
      | (with_reducible show wpList _ _ _ (⟨none,.store _ _ _,_,_,_,_⟩::_) _ _
         refine wpList_store_row rfl 61 _ _ rfl w1.heap.size y.cs.toArray rfl rfl 61 Nd.zero.cs.toArray (At.new _ _ _) (by kernel_rfl) rfl hone ?_
         first | change wpList _ _ _ _ _ (boxN w1 y) | change Exit.then _ _ _ _ (boxN w1 y))
      | fail)
    refine HP.out.mono ?_
    rintro e w2 g
    obtain ⟨r,_,_,rfl,_⟩:=id g
    have HG:Hid (Grows AA w a ns F (fun more r=>NotR (ns++more) x r∧more.length≤1∧(isIn ns r→more=[])) (.returned (.int .i64 r)) w2):=Lib.hid (by
      obtain ⟨r',more,F',g0,g1,g2,g3,g4,g5,g6⟩:=g.from HBb.out
      refine ⟨r',more,F',g0,g1,g2,g3,g4,g5,⟨g5,fun q=>?_,fun q=>⟨?_,?_⟩⟩,g6.2⟩
      · rw[kd_up HX.out,HK.out.1] at q;exact absurd q HKn.out
      · unfold kd;rw[g6.1]
      · unfold ka;rw[g6.1])
    clear g
    go_wp2_with fail
    go_ret
    exact HG.out
end
end Go.Proofs.YtgmpfnfomgadeaaGreat

/- What putting one behind the other is: mathematics. -/
set_option linter.unusedSimpArgs false
set_option linter.unusedVariables false
namespace Go.Proofs.YtgmpfnfomgadeaaGreat
open Go.RowKit
theorem cat_split {ns:List Nd} (hf:FineN ns) {r p q:Int} {l:List Int} (hr:isIn ns r) (h:catV ns r=some (p::q::l)):kd ns r=3∧ka ns r=p∧catV ns (kb ns r)=some (q::l):=by
  by_cases r0:kd ns r=0
  · rw[cat_none r0] at h;cases h
  by_cases r1:kd ns r=1
  · rw[cat_empty r1] at h;cases h
  by_cases r3:kd ns r=3
  · rw[cat_node hf hr r3] at h
    cases hb:catV ns (kb ns r) with
    | none=>rw[hb] at h;cases h
    | some m =>
      rw[hb] at h
      injection h with h
      injection h with h1 h2
      exact ⟨r3,h1,by rw[h2]⟩
  · rw[cat_leaf r0 r1 r3] at h
    injection h with h
    injection h with h1 h2
    cases h2
theorem cat_end {ns more:List Nd} (hc:Canon ns) (hc':Canon (ns++more)) {x y r:Int} (hx:isIn ns x) (hy:isIn ns y) (k0:kd ns x≠0) (k1:kd ns x≠1) (k3:kd ns x≠3) (y0:kd ns y≠0) (y1:kd ns y≠1) (hr:isIn (ns++more) r) (hn:ndAt (ns++more) r.toNat=⟨3,noSt,x,y,false⟩) (ho:isIn ns r→more=[]) :
    CatR (ns++more) x y r∧((∃r0,CatR ns x y r0)→more=[]):=by
  have r3:kd (ns++more) r=3:=by unfold kd;rw[hn]
  have ra:ka (ns++more) r=x:=by unfold ka;rw[hn]
  have rb:kb (ns++more) r=y:=by unfold kb;rw[hn]
  have hv:catV (ns++more) r=(catV ns y).map (x::·):=by rw[cat_node hc'.fine hr r3,ra,rb,catV_up hc.fine more hy]
  obtain ⟨q,l,hyl⟩:=cat_parts hc _ y (Nat.le_refl _) hy y0 y1
  refine ⟨⟨hr,by rw[hv,catV_up hc.fine more hx,catV_up hc.fine more hy,cat_leaf k0 k1 k3];cases catV ns y<;>rfl⟩,?_⟩
  rintro ⟨r0,h0,h1⟩
  rw[cat_leaf k0 k1 k3,hyl] at h1
  obtain ⟨z3,za,zb⟩:=cat_split hc.fine h0 (show catV ns r0=some (x::q::l) from h1)
  obtain ⟨_,b0,_⟩:=in_two hc.fine h0 (Or.inl z3)
  have hb:kb ns r0=y:=cat_inj hc _ _ _ (Nat.le_refl _) b0 hy (by rw[zb,hyl])
  have e:r=r0:=two_eq hc'.fine hr (h0.up more) (Or.inl r3) (by rw[r3,kd_up h0,z3]) (by rw[ra,ka_up h0,za]) (by rw[rb,kb_up h0,hb])
  exact ho (by rw[e];exact h0)
section
variable {AA:World→Value→List Nd→(Nat→Prop)→Prop}
theorem Grows.stay {w w':World} {a:Value} {ns:List Nd} {F:Nat→Prop} {R:List Nd→Int→Prop} {r:Int} (S:ArenaMid AA) (h:AA w a ns F) (hc:Canon ns) (hb:Below w.heap.size w w') (hr:isIn ns r) (hR:R [] r):Grows AA w a ns F R (.returned (.int .i64 r)) w' :=
  ⟨r,[],F,rfl,by rw[List.append_nil];exact S.next h hb,fun b q=>Or.inl q,OffF.of hb,by rw[List.append_nil];exact hc,by rw[List.append_nil];exact hr,hR⟩
def CatG (ns:List Nd) (x y:Int) (more:List Nd) (r:Int):Prop:=CatR (ns++more) x y r∧more.length≤catN ns x∧((∃r0,CatR ns x y r0)→more=[])
theorem two_right' {ns:List Nd} {k x y:Int} (hk:k=3∨k=4∨k=5) (hx:isIn ns x) (hy:isIn ns y):(Nd.mk k noSt x y false).right ns.length=true:=by
  unfold isIn at hx hy
  unfold Nd.right aIn
  rw[if_neg (by dsimp only;omega),if_neg (by dsimp only;omega),if_pos (by dsimp only;omega),Nd.eqb_self]
  dsimp only
  rw[decide_eq_true hx.1,decide_eq_true hx.2,decide_eq_true hy.1,decide_eq_true hy.2];rfl
theorem cat_both (S:ArenaMid AA) {w w4 w6 w7:World} {a:Value} {ns more1 more2:List Nd} {F F1 F2:Nat→Prop} {x y q r:Int} (hc:Canon ns) (hx:isIn ns x) (hy:isIn ns y) (ia:isIn ns (ka ns x)) (ib:isIn ns (kb ns x)) (k3:kd ns x=3) (y0:kd ns y≠0) (y1:kd ns y≠1) (hb:Below w.heap.size w w4)
    (g1:AA w6 a (ns++more1) F1) (g2:∀b,F1 b→F b∨w4.heap.size≤b) (hO:OffF F w w6) (g4:Canon (ns++more1)) (g5:isIn (ns++more1) q) (g6:CatG ns (kb ns x) y more1 q)
    (k1:AA w7 a ((ns++more1)++more2) F2) (k2:∀b,F2 b→F1 b∨w6.heap.size≤b) (k4:OffF F1 w6 w7) (k5:Canon ((ns++more1)++more2)) (k6:isIn ((ns++more1)++more2) r) (k7:CatG (ns++more1) (ka ns x) q more2 r) :
    Grows AA w a ns F (CatG ns x y) (.returned (.int .i64 r)) w7:=by
  obtain ⟨⟨a0,a1,a3⟩,b0,b1⟩:=hc.cat x hx k3
  have hva:catV ns (ka ns x)=some [ka ns x]:=cat_leaf a0 a1 a3
  have hvx:catV ns x=(catV ns (kb ns x)).map (ka ns x::·):=cat_node hc.fine hx k3
  have hlow:∀b,F1 b→F b∨w.heap.size≤b:=fun b z=>by
    rcases g2 b z with z | z
    · exact Or.inl z
    · exact Or.inr (Nat.le_trans hb.size z)
  refine ⟨r,more1++more2,F2,rfl,by rw[←List.append_assoc];exact k1,fun b z=>?_,hO.off k4 hlow,by rw[←List.append_assoc];exact k5,by rw[←List.append_assoc];exact k6,?_,?_,?_⟩
  · rcases k2 b z with z | z
    · exact hlow b z
    · exact Or.inr (Nat.le_trans hO.size z)
  · rw[←List.append_assoc]
    refine ⟨k6,?_⟩
    rw[k7.1.2,catV_up g4.fine more2 (ia.up more1),catV_up hc.fine more1 ia,catV_up g4.fine more2 g5,g6.1.2,catV_up hc.fine more1 ib,catV_up hc.fine more1 hy,catV_up g4.fine more2 (hx.up more1),catV_up hc.fine more1 hx,catV_up g4.fine more2 (hy.up more1),catV_up hc.fine more1 hy,hva,hvx]
    cases catV ns (kb ns x)<;>cases catV ns y<;>simp[catJ]
  · have e1:catN ns x=1+catN ns (kb ns x):=by
      obtain ⟨p,l,hpl⟩:=cat_parts hc _ _ (Nat.le_refl _) ib b0 b1
      unfold catN
      rw[hvx,hpl]
      simp
      omega
    have e2:catN (ns++more1) (ka ns x)=1:=by unfold catN;rw[catV_up hc.fine more1 ia,hva];rfl
    have h1:=g6.2.1
    have h2:=k7.2.1
    rw[List.length_append]
    omega
  · rintro ⟨r0,h0,h1⟩
    obtain ⟨p,l,hpl⟩:=cat_parts hc _ _ (Nat.le_refl _) ib b0 b1
    obtain ⟨p2,l2,hyl⟩:=cat_parts hc _ y (Nat.le_refl _) hy y0 y1
    rw[hvx,hpl,hyl] at h1
    obtain ⟨z3,za,zb⟩:=cat_split hc.fine h0 (show catV ns r0=some (ka ns x::p::(l++p2::l2)) from h1)
    obtain ⟨_,c0,_⟩:=in_two hc.fine h0 (Or.inl z3)
    have hq:CatR ns (kb ns x) y (kb ns r0):=⟨c0,by rw[zb,hpl,hyl];rfl⟩
    have e1:more1=[]:=g6.2.2 ⟨_,hq⟩
    subst e1
    rw[List.append_nil] at g5 k7
    have eq:q=kb ns r0:=cat_inj hc _ _ _ (Nat.le_refl _) g5 c0 (by
      have:=g6.1.2
      rw[List.append_nil] at this
      rw[this,hq.2])
    have e2:more2=[]:=k7.2.2 ⟨r0,h0,by rw[eq,zb,hva,h1];rfl⟩
    rw[e2];rfl
theorem cat_ne {ns more:List Nd} (hc:Canon ns) {x y r:Int} (hx:isIn ns x) (hy:isIn ns y) (k3:kd ns x=3) (y0:kd ns y≠0) (y1:kd ns y≠1) (h:CatR (ns++more) x y r):r≠y∧kd (ns++more) r≠0∧kd (ns++more) r≠1:=by
  obtain ⟨p,l,hpl⟩:=cat_parts hc _ x (Nat.le_refl _) hx (by omega) (by omega)
  obtain ⟨q,m,hqm⟩:=cat_parts hc _ y (Nat.le_refl _) hy y0 y1
  have e:=h.2
  rw[catV_up hc.fine more hx,catV_up hc.fine more hy,hpl,hqm] at e
  refine ⟨fun z=>?_,fun z=>?_,fun z=>?_⟩
  · rw[z,catV_up hc.fine more hy,hqm] at e
    have e:some (q::m)=some ((p::l)++(q::m)):=e
    have:=congrArg (fun o=>(o.getD []).length) e
    simp at this
    omega
  · rw[cat_none z] at e;cases e
  · rw[cat_empty z] at e;cases e
theorem cat_kb {ns more:List Nd} (hc:Canon ns) {x y q:Int} (hx:isIn ns x) (hy:isIn ns y) (k3:kd ns x=3) (ib:isIn ns (kb ns x)) (y0:kd ns y≠0) (y1:kd ns y≠1) (h:CatR (ns++more) (kb ns x) y q):kd (ns++more) q≠0∧kd (ns++more) q≠1:=by
  obtain ⟨_,b0,b1⟩:=hc.cat x hx k3
  obtain ⟨p,l,hpl⟩:=cat_parts hc _ _ (Nat.le_refl _) ib b0 b1
  obtain ⟨q',m,hqm⟩:=cat_parts hc _ y (Nat.le_refl _) hy y0 y1
  have e:=h.2
  rw[catV_up hc.fine more ib,catV_up hc.fine more hy,hpl,hqm] at e
  refine ⟨fun z=>?_,fun z=>?_⟩
  · rw[cat_none z] at e;cases e
  · rw[cat_empty z] at e;cases e
end
end Go.Proofs.YtgmpfnfomgadeaaGreat
