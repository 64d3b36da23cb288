/- Joined: NodeKey, ArenaAid, RefLooks, Plan. -/
import Derived.Test.YtgmpfnfomgadeaaGreatMae
import Derived.Test.YtgmpfnfomgadeaaGreatMad
import Derived.Maps.OwnSet
import Derived.DeepKeys4
import Derived.Test.YtgmpfnfomgadeaaGreatMag
import Derived.Deep.RegionHeld3
import Derived.StillTailTactics
import Derived.Maps.AppendAt
import Derived.Test.YtgmpfnfomgadeaaGreatMah
import Derived.Test.YtgmpfnfomgadeaaGreatMab
import Derived.Test.YtgmpfnfomgadeaaGreatMaq
import Derived.Deep.AppendSrc
/- A node as the key of a map; a map that tells the numbers of nodes. -/
set_option linter.unusedSimpArgs false
set_option linter.unusedVariables false
set_option maxRecDepth 100000
namespace Go.Proofs.YtgmpfnfomgadeaaGreat
open Go.RowKit Go.Maps
theorem laidOutK:laidOutB Tryz.prog=true:=by kernel_rfl
theorem rowNode:(61:TypeId)<Tryz.prog.types.size:=of_decide_eq_true (by kernel_rfl)
theorem wideNode:(match Tryz.prog.underlying 61 with | some (.array _ _) | some (.struct _)=>true | _=>false)=true:=by kernel_rfl
theorem keyTypeNode:Tryz.prog.keyType 61=true:=by kernel_rfl
theorem lawNode:Keyed Tryz.prog 61:=Keyed.of_law (deep_law_laid laidOutK (m:=4) (by omega) rowNode (by kernel_rfl) wideNode)
theorem cellsNode:Tryz.prog.cellsOf 61=8:=by kernel_rfl
theorem cellsSetK:Tryz.prog.cellsOf 24=4:=by kernel_rfl
theorem cellsIntK:Tryz.prog.cellsOf 3=1:=by kernel_rfl
theorem cellsU64K:Tryz.prog.cellsOf 22=1:=by kernel_rfl
theorem cellsBoolK:Tryz.prog.cellsOf 4=1:=by kernel_rfl
theorem sizeK:2≤Tryz.prog.types.size:=of_decide_eq_true (by kernel_rfl)
def Nd.lits (x:Nd):List Lit:=[.int .i64 x.kind,.int .u64 x.set.w0,.int .u64 x.set.w1,.int .u64 x.set.w2,.int .u64 x.set.w3,.int .i64 x.a,.int .i64 x.b,.bool x.neg]
def keyN (x:Nd):Lit:=.string (keyBytes x.lits)
theorem formedNode (x:Nd):(Value.agg x.cs.toArray).formed Tryz.prog 61=true:=by
  simp[Value.formed,Tryz.underlying61,cellsNode,Nd.cs]
theorem lits_int (d:Nat) {z:Int} (h:I64 z):Tryz.prog.keyLits (d+1) 3 [.int .i64 z]=some [.int .i64 z]:=by
  have hw:(Lit.int .i64 z).wf=true:=WalkArith.wf_i64 (by unfold I64 at h;omega)
  simp[Program.keyLits,Tryz.underlying3,hw]
theorem lits_u64 (d:Nat) {z:Nat} (h:U64 z):Tryz.prog.keyLits (d+1) 22 [.int .u64 z]=some [.int .u64 z]:=by
  have hw:(Lit.int .u64 z).wf=true:=by unfold U64 at h;simp[Lit.wf,IntKind.min,IntKind.max,IntKind.signed,IntKind.bits];omega
  simp[Program.keyLits,Tryz.underlying22,hw]
theorem lits_bool (d:Nat) (b:Bool):Tryz.prog.keyLits (d+1) 4 [.bool b]=some [.bool b]:=by
  simp[Program.keyLits,Tryz.underlying4]
theorem lits_set (d:Nat) {s:St} (h:s.Ok):Tryz.prog.keyLits (d+2) 24 [.int .u64 s.w0,.int .u64 s.w1,.int .u64 s.w2,.int .u64 s.w3]=some [.int .u64 s.w0,.int .u64 s.w1,.int .u64 s.w2,.int .u64 s.w3]:=by
  have h0:=lits_u64 d (h.word 0)
  have h1:=lits_u64 d (h.word 1)
  have h2:=lits_u64 d (h.word 2)
  have h3:=lits_u64 d (h.word 3)
  simp[St.word] at h0 h1 h2 h3
  unfold Program.keyLits
  simp only[Tryz.underlying24]
  rw[if_pos (by rw[cellsSetK];rfl),cellsU64K]
  simp[List.range_succ,h0,h1,h2,h3]
theorem lits_node (d:Nat) {x:Nd} (h:NdFit x):Tryz.prog.keyLits (d+3) 61 x.cs=some x.lits:=by
  have h0:=lits_int (d+1) h.1
  have h1:=lits_set d h.2.1
  have h2:=lits_int (d+1) h.2.2.1
  have h3:=lits_int (d+1) h.2.2.2
  have h4:=lits_bool (d+1) x.neg
  unfold Program.keyLits
  simp only[Tryz.underlying61]
  rw[if_pos (by rw[cellsNode];exact ⟨rfl,by simp⟩)]
  simp[cellsSetK,cellsIntK,cellsBoolK,Nd.cs,Nd.lits,h0,h1,h2,h3,h4]
theorem keyNode (x:Nd) (h:NdFit x):keyOf Tryz.prog 61 (.agg x.cs.toArray)=some (keyN x):=by
  have hl:=lits_node (Tryz.prog.types.size-2) h
  rw[show Tryz.prog.types.size-2+3=Tryz.prog.types.size+1 by have:=sizeK;omega] at hl
  unfold keyOf
  rw[Tryz.underlying61]
  show (if Tryz.prog.keyType 61&&(Value.agg x.cs.toArray).formed Tryz.prog 61 then _ else none)=_
  rw[keyTypeNode,formedNode]
  show (Tryz.prog.keyLits (Tryz.prog.types.size+1) 61 (Value.agg x.cs.toArray).cells.toList).map _=_
  rw[show (Value.agg x.cs.toArray).cells.toList=x.cs from rfl,hl]
  rfl
theorem cs_inj {x y:Nd} (h:x.cs=y.cs):x=y:=by
  obtain ⟨k,⟨a0,a1,a2,a3⟩,a,b,n⟩:=x
  obtain ⟨k',⟨b0,b1,b2,b3⟩,a',b',n'⟩:=y
  simp[Nd.cs] at h
  simp[h]
  omega
theorem keyN_inj {x y:Nd} (hx:NdFit x) (hy:NdFit y) (h:keyN x=keyN y):x=y:=by
  have e:=lawNode.inj (keyNode x hx) (by rw[h];exact keyNode y hy)
  injection e with e
  exact cs_inj (congrArg Array.toList e)
def IdsAt (w:World) (b:Nat) (ns:List Nd):Prop:=∃D:DataW Unit,w.ownsMap Tryz.prog 61 (plainElem Tryz.prog 3) b ns.length D ∧
  ∀x,NdFit x→has D (keyN x)=decide (findN ns x<ns.length)∧(findN ns x<ns.length→D.atKey (keyN x) (.lit (.int .i64 0))=.lit (.int .i64 (findN ns x)))
theorem IdsAt.made (w:World):IdsAt (w.alloc (.map #[] 0)) w.heap.size []:=⟨_,World.ownsMap_made _ _ _ _,fun x _=>⟨rfl,fun h=>absurd h (Nat.not_lt_zero _)⟩⟩
theorem IdsAt.lt {w:World} {b:Nat} {ns:List Nd} (h:IdsAt w b ns):b<w.heap.size:=by obtain ⟨D,h1,_⟩:=h;exact h1.lt
theorem IdsAt.kept {w w':World} {b:Nat} {ns:List Nd} (h:IdsAt w b ns) (hb:w'.heap[b]?=w.heap[b]?):IdsAt w' b ns:=by
  obtain ⟨D,⟨es,clock,h1,h2⟩,h3⟩:=h
  exact ⟨D,⟨es,clock,hb.trans h1,h2⟩,h3⟩
theorem findN_snoc (ns:List Nd) (y x:Nd):findN (ns++[y]) x=if findN ns x<ns.length then findN ns x else if y.eqb x=true then ns.length else ns.length+1:=by
  unfold findN
  rw[List.findIdx_append]
  split
  · rfl
  · have e:ns.findIdx (fun y=>y.eqb x)=ns.length:=by
      have:=@List.findIdx_le_length Nd (fun y=>y.eqb x) ns
      omega
    cases hb:y.eqb x with
    | true=>simp[List.findIdx_cons,hb]
    | false=>simp[List.findIdx_cons,hb];omega
theorem IdsAt.push {w:World} {b:Nat} {ns:List Nd} {D:DataW Unit} {y:Nd} (hy:NdFit y) (hn:¬findN ns y<ns.length)
    (h:∀x,NdFit x→has D (keyN x)=decide (findN ns x<ns.length)∧(findN ns x<ns.length→D.atKey (keyN x) (.lit (.int .i64 0))=.lit (.int .i64 (findN ns x)))) (hm:IsMap D)
    (hw:w.ownsMap Tryz.prog 61 (plainElem Tryz.prog 3) b (ns.length+1) (D.put (keyN y) (.lit (.int .i64 ns.length)))):IdsAt w b (ns++[y]):=by
  refine ⟨_,by rw[List.length_append];exact hw,fun x hx=>?_⟩
  rw[findN_snoc,List.length_append,List.length_singleton]
  obtain ⟨h1,h2⟩:=h x hx
  by_cases e:y=x
  · subst e
    rw[if_neg hn,if_pos (Nd.eqb_self _)]
    refine ⟨?_,fun _=>?_⟩
    · rw[has_put_same hm (lawNode.key (keyNode y hy))];simp
    · rw[atKey_put_same hm (lawNode.key (keyNode y hy))]
  · have hk:keyN y≠keyN x:=fun q=>e (keyN_inj hy hx q)
    rw[if_neg (fun q=>e ((Nd.eqb_iff _ _).1 q))]
    refine ⟨?_,?_⟩
    · rw[has_put_other (fun q=>hk q.symm),h1]
      by_cases hf:findN ns x<ns.length
      · rw[if_pos hf,decide_eq_true hf,decide_eq_true (by omega)]
      · rw[if_neg hf,decide_eq_false hf,decide_eq_false (by omega)]
    · intro hlt
      by_cases hf:findN ns x<ns.length
      · rw[if_pos hf,atKey_put_other (fun q=>hk q.symm)];exact h2 hf
      · rw[if_neg hf] at hlt;omega
theorem zeroIntK (w:World):(zeroValue 3).run Tryz.prog w=.ok (.int .i64 0) w:=by kernel_rfl
theorem IdsAt.look {w:World} {m:Nat} {ns:List Nd} {x:Nd} (h:IdsAt w m ns) (hx:NdFit x):(Instr.lookup 56 (.map (some m)) (.agg x.cs.toArray) true).run Tryz.prog w=.ok (.tuple #[.int .i64 (if findN ns x<ns.length then (findN ns x:Int) else 0),.bool (decide (findN ns x<ns.length))]) w:=by
  obtain ⟨D,hown,hD⟩:=h
  obtain ⟨hh,ha⟩:=hD x hx
  obtain ⟨v,ps,hr,hv⟩:=hown.look_ok lawNode Tryz.underlying56 (zeroIntK w) (plainElem_int Tryz.underlying3 (by decide)) (keyNode x hx)
  obtain ⟨c,rfl,hc,_⟩:=plainElem_int_inv Tryz.underlying3 hv
  rw[hr,hh]
  have e:=congrArg Prod.fst hc
  by_cases hlt:findN ns x<ns.length
  · rw[ha hlt] at e
    simp only[DataW.lit.injEq,Lit.int.injEq,true_and] at e
    rw[if_pos hlt,←e]
  · have hn:has D (keyN x)=false:=by rw[hh];exact decide_eq_false hlt
    rw[atKey_of_not_has hn] at e
    simp only[DataW.lit.injEq,Lit.int.injEq,true_and] at e
    rw[if_neg hlt,←e]
theorem IdsAt.store {w:World} {m:Nat} {ns:List Nd} {x:Nd} (h:IdsAt w m ns) (hx:NdFit x) (hl:ns.length≤1000000) (hn:¬findN ns x<ns.length):∃w',(Instr.mapUpdate 56 (.map (some m)) (.agg x.cs.toArray) (.int .i64 ns.length)).run Tryz.prog w=.ok () w'∧IdsAt w' m (ns++[x])∧w.grownBy w' (some m):=by
  obtain ⟨D,hown,hD⟩:=h
  have hw:(Lit.int .i64 (ns.length:Int)).wf=true:=WalkArith.wf_i64 (by omega)
  obtain ⟨w',hr,h1,h2⟩:=World.ownsMap.update (n:=ns.length) (val:=.int .i64 (ns.length:Int)) hown lawNode Tryz.underlying56 (show ns.length<maxLen by unfold maxLen;omega) (keyNode x hx) (plainElem_int (H:=Unit) Tryz.underlying3 hw)
  exact ⟨w',hr,IdsAt.push hx hn hD hown.isMap h1,h2⟩
end Go.Proofs.YtgmpfnfomgadeaaGreat

/- Steps and facts for an arena that keeps a row of nodes and a map of their numbers. -/
set_option linter.unusedSimpArgs false
set_option linter.unusedVariables false
namespace Go.Proofs.YtgmpfnfomgadeaaGreat
open Go.RowKit Go.Maps
theorem results_row_tmp {P:Program} {fn:Func} {p u:Tmp} {ty:TypeId} (h:fn.results=#[.cell p ty,.tmp u]) (tmps:Array Value) (w:World) (g:Nat) (t:TypeId) (cs:Array Value) (fr:Nat×Nat) (d:TypeDesc)
    (hp:tmps.getD p undef=.pointer (some ⟨g,0,none⟩)) (hg:w.heap[g]?=some (.cells cs t fr))
    (hu:P.underlying ty=some d) (hd:(match d with | .struct _ | .array _ _=>true | _=>false)=true) (hi:(P.info? ty).map (·.size)=some cs.size) :
    (results fn tmps).run P w=.ok (.tuple #[.agg cs,tmps.getD u undef]) w:=by
  have hp':tmps[p]?.getD undef=.pointer (some ⟨g,0,none⟩):=by simpa using hp
  simp[results,h,hp',asAddr,run_loadVar_row w g t ty cs fr d hg hu hd hi]
theorem fine_put {ns:List Nd} {x:Nd} (hf:FineN ns) (hr:x.right ns.length=true) (hx:NdFit x) (hn:¬findN ns x<ns.length):FineN (ns++[x]):=by
  have hl:(ns++[x]).length=ns.length+1:=by rw[List.length_append];rfl
  have hat:∀j,j<ns.length→ndAt (ns++[x]) j=ndAt ns j:=fun j hj=>by unfold ndAt;rw[List.getElem?_append_left hj]
  have hlast:ndAt (ns++[x]) ns.length=x:=by unfold ndAt;rw[List.getElem?_append_right (Nat.le_refl _),Nat.sub_self];rfl
  have hne:∀j,j<ns.length→ndAt ns j≠x:=fun j hj e=>hn (by
    rcases Nat.lt_or_ge (findN ns x) ns.length with h | h
    · exact h
    · have h1:=findN_not (ns:=ns) (x:=x) (t:=j) (by omega)
      rw[e,Nd.eqb_self] at h1;cases h1)
  refine ⟨fun j hj=>?_,fun i j hi hj e=>?_⟩
  · rw[hl] at hj
    by_cases c:j<ns.length
    · rw[hat j c];exact hf.1 j c
    · obtain rfl:j=ns.length:=by omega
      rw[hlast];exact ⟨hr,hx⟩
  · rw[hl] at hi hj
    by_cases c:i<ns.length
    · by_cases d:j<ns.length
      · rw[hat i c,hat j d] at e;exact hf.2 i j c d e
      · obtain rfl:j=ns.length:=by omega
        rw[hat i c,hlast] at e;exact absurd e (hne i c)
    · obtain rfl:i=ns.length:=by omega
      by_cases d:j<ns.length
      · rw[hlast,hat j d] at e;exact absurd e.symm (hne j d)
      · omega
section
variable {ops:Array Oper} {o:Oper} {a:Act} {w:World} {K:Act→World→Prop} {Q:Exit→Act→World→Prop} {X:Prop}
theorem stepq_value {P:Program} (hgd:o.guard=none) (v:Value) (w':World) (hr:(execOp a.eval o).run P w=.ok (.value v) w') (h:K (a.put o.dst v) w'):if Region.wanted o (yielded ops a.tmps)=true then Oper.wp P o a w K Q else X:=by
  have hw:Region.wanted o (yielded ops a.tmps)=true:=by simp[Region.wanted,hgd]
  rw[if_pos hw]
  unfold Oper.wp
  rw[hr]
  exact h
theorem stepq_append {P:Program} (hgd:o.guard=none) (s x:Operand) (t:TypeId) (ho:o.op=.call {callee:=.builtin .append,args:=#[s,x],argTypes:=#[t,t]}) (v1 v2:Value) (hs:a.eval s=v1) (hx:a.eval x=v2) {R:Value→World→Prop}
    (hrun:∃v w',(Builtin.append_ #[t,t] o.type #[v1,v2]).run P w=.ok v w'∧R v w') (h:∀v w',R v w'→K (a.put o.dst v) w'):if Region.wanted o (yielded ops a.tmps)=true then Oper.wp P o a w K Q else X:=by
  obtain ⟨v,w',hr,hR⟩:=hrun
  refine stepq_value hgd v w' ?_ (h v w' hR)
  unfold execOp
  simp only[ho,resolve,invoke,builtin,Sem.run_bind,Sem.run_pure,Result.andThen_ok,List.map_toArray,List.map_cons,List.map_nil,hs,hx,hr]
theorem stepq_slice1 (T E:TypeId) (cs:Array Value) (hgd:o.guard=none) (x:Operand) (u:Value) (ho:o.op=.buildSlice T 1 #[(0,x)]) (hx:a.eval x=u) (hrun:∀w,(Instr.buildSlice T 1 #[(0,u)]).run Tryz.prog w=.ok (.slice (some ⟨w.heap.size,0,none⟩) 1 1) (w.alloc (.cells cs E)))
    (h:∀g w',At w' g E cs→Below w.heap.size w w'→w.heap.size≤g→K (a.put o.dst (.slice (some ⟨g,0,none⟩) 1 1)) w'):if Region.wanted o (yielded ops a.tmps)=true then Oper.wp Tryz.prog o a w K Q else X:=by
  refine stepq_value hgd (.slice (some ⟨w.heap.size,0,none⟩) 1 1) (w.alloc (.cells cs E)) ?_ (h _ _ (At.new _ _ _) ((Below.refl _ _).alloc (Nat.le_refl _) _) (Nat.le_refl _))
  unfold execOp
  simp only[ho,List.map_toArray,List.map_cons,List.map_nil,hx,Sem.run_bind,hrun,Result.andThen_ok,Sem.run_pure]
theorem stepq_mapUpdate {P:Program} (hgd:o.guard=none) (mm x v:Operand) (t:TypeId) (hop:o.op=Op.mapUpdate t mm x v) (v1 v2 v3:Value) (h1:a.eval mm=v1) (h2:a.eval x=v2) (h3:a.eval v=v3) {R:World→Prop}
    (hrun:∃w',(Instr.mapUpdate t v1 v2 v3).run P w=.ok () w'∧R w') (h:∀w',R w'→K (a.put o.dst undef) w'):if Region.wanted o (yielded ops a.tmps)=true then Oper.wp P o a w K Q else X:=by
  have hw:Region.wanted o (yielded ops a.tmps)=true:=by simp[Region.wanted,hgd]
  rw[if_pos hw]
  obtain ⟨w',hr,hR⟩:=hrun
  unfold Oper.wp
  simp[execOp,hop,h1,h2,h3,hr,Result.andThen]
  exact h w' hR
end
theorem run_node1 (x:Nd) (w:World):(Instr.buildSlice 47 1 #[(0,.agg #[.int .i64 x.kind,.int .u64 x.set.w0,.int .u64 x.set.w1,.int .u64 x.set.w2,.int .u64 x.set.w3,.int .i64 x.a,.int .i64 x.b,.bool x.neg])]).run Tryz.prog w=.ok (.slice (some ⟨w.heap.size,0,none⟩) 1 1) (w.alloc (.cells x.cs.toArray 61)):=by kernel_rfl
theorem append_node (w:World) (v:Value) (ns:List Nd) (x:Nd) (g8:Nat) (ty:TypeId) (h:NdRow w 0 v ns) (h8:At w g8 61 x.cs.toArray) (hn:ns.length≤100000) :
    ∃v' w',(Builtin.append_ #[47,47] ty #[v,.slice (some ⟨g8,0,none⟩) 1 1]).run Tryz.prog w=.ok v' w'∧(NdRow w' 0 v' (ns++[x])∧w.grownBy w' v.ownBlock∧(v'.ownBlock=v.ownBlock∨v'.ownBlock=some w.heap.size)):=by
  obtain ⟨i,hi,hz,hsz,hby⟩:=info_parts info_node
  obtain ⟨v',w',hr,q2,q3,_,q5⟩:=run_append_own_at (P:=Tryz.prog) w 0 47 ty 61 i _ 8 64 Tryz.underlying47 hi hz hsz hby rfl (by omega) v ns.length (ndL ns) h ⟨g8,0,none⟩ 1 1 x.cs rfl (World.news_of_block h8) (by simp[Nd.cs,Value.oneCell']) (by unfold maxLen;omega) (by omega) (Nat.zero_le _)
  exact ⟨v',w',hr,NdRow.push q2,q3,q5⟩
theorem at_rangeN {w:World} {g:Nat} {ty:TypeId} {x:Nd} (h:At w g ty x.cs.toArray):w.rangeAt g 0 x.cs:=fun j v hv=>by
  rw[Nat.zero_add,h.cell];simpa using hv
theorem NdRow.drewN {w:World} {b:Nat} {v:Value} {l:List Nd} (h:NdRow w b v l) (q:Nat):NdRow (w.drewN q) b v l:=h
end Go.Proofs.YtgmpfnfomgadeaaGreat

/- bolterref21.Looks: the looks of a pattern, behind others; bare. -/
set_option linter.unusedSimpArgs false
set_option linter.unusedVariables false
namespace Go.Proofs.YtgmpfnfomgadeaaGreat
open Go.RowKit
def bareT:Tr→Tr | .node k s A n c p l h _=>.node k s A n c p l h false
theorem bareT_cs (t:Tr):(bareT t).cs.toArray=t.cs.toArray.setIfInBounds 8 (.bool false):=by cases t;rfl
def Pats (w:World) (K:Nat) (v:Value) (L:List Tr):Prop :=
  ∃A c,v=.slice A L.length c∧(0<L.length→∃b off,A=some ⟨b,off,none⟩∧b<w.heap.size∧∀(j:Nat) (h:j<L.length),w.rangeAt b (off+j*9) L[j].cs)∧∀t∈L,Tr.In w K t
theorem Pats.next {w w':World} {K:Nat} {v:Value} {L:List Tr} (h:Pats w K v L) (hb:Below w.heap.size w w'):Pats w' K v L:=by
  obtain ⟨A,c,h1,h2,h3⟩:=h
  refine ⟨A,c,h1,fun h0=>?_,fun t ht=>(h3 t ht).next hb⟩
  obtain ⟨b,off,e,hlt,hr⟩:=h2 h0
  exact ⟨b,off,e,Nat.lt_of_lt_of_le hlt hb.size,fun j hj=>range_below (hr j hj) hlt (Nat.le_refl _) hb⟩
theorem Pats.nil (w:World) (K:Nat):Pats w K (.slice none 0 0) []:=⟨none,0,rfl,fun h=>absurd h (Nat.not_lt_zero _),fun t ht=>by cases ht⟩
def csL (L:List Tr):List Value:=L.flatMap Tr.cs
theorem csL_length (L:List Tr):(csL L).length=L.length*9:=by
  induction L with
  | nil=>rfl
  | cons x l ih=>show (x.cs++csL l).length=_;rw[List.length_append,ih,Tr.cs_length,List.length_cons];omega
theorem csL_at (L:List Tr):∀(k i:Nat) (h:k<L.length),i<9→(csL L)[k*9+i]?=L[k].cs[i]?:=by
  induction L with
  | nil=>intro k i h;exact absurd h (Nat.not_lt_zero _)
  | cons x l ih =>
    intro k i h hi
    show (x.cs++csL l)[k*9+i]?=_
    cases k with
    | zero=>rw[Nat.zero_mul,Nat.zero_add,List.getElem?_append_left (by rw[Tr.cs_length];exact hi)];rfl
    | succ k =>
      rw[List.getElem?_append_right (by rw[Tr.cs_length];omega),Tr.cs_length,show (k+1)*9+i-9=k*9+i by omega,ih k i (by simpa using h) hi]
      rfl
theorem csL_one (L:List Tr):∀u∈csL L,u.oneCell'=true:=by
  intro u hu
  unfold csL at hu
  rw[List.mem_flatMap] at hu
  obtain ⟨t,_,hu⟩:=hu
  simp[Tr.cs] at hu
  rcases hu with rfl | rfl | rfl | rfl | rfl | rfl | rfl | rfl | rfl<;>rfl
theorem csL_snoc (L:List Tr) (t:Tr):csL L++t.cs=csL (L++[t]):=by unfold csL;rw[List.flatMap_append];simp
def ResRow (w:World) (base:Nat) (v:Value) (L:List Tr):Prop:=w.ownsRow base 27 9 v L.length (csL L)
theorem info_reL:(Tryz.prog.info? 27).map (fun i=>(i.zero,i.size,i.bytes))=some (some (.agg Tr.blank.cs.toArray),9,88):=by kernel_rfl
theorem ResRow.pats {w:World} {base K:Nat} {v:Value} {L:List Tr} (h:ResRow w base v L) (hi:∀t∈L,Tr.In w K t):Pats w K v L:=by
  rcases h.2 with ⟨rfl,hn⟩ | ⟨g,cap,cur,rfl,hb,hc,r⟩
  · refine ⟨none,0,by rw[hn],fun h0=>by omega,hi⟩
  · refine ⟨_,_,rfl,fun h0=>⟨g,0,rfl,(Array.getElem?_eq_some_iff.1 hc).1,fun j hj i u hu=>?_⟩,hi⟩
    have hi9:i<9:=by
      have:=(List.getElem?_eq_some_iff.1 hu).1
      rwa [Tr.cs_length] at this
    rw[Nat.zero_add,World.ownsRow.cellAt h (j*9+i) (by omega),csL_at L j i hj hi9]
    exact hu
section
variable {ops:Array Oper} {o:Oper} {a:Act} {w:World} {K:Act→World→Prop} {Q:Exit→Act→World→Prop} {X:Prop}
end
theorem run_re1 (t:Tr) (w:World):(Instr.buildSlice 25 1 #[(0,.agg t.cs.toArray)]).run Tryz.prog w=.ok (.slice (some ⟨w.heap.size,0,none⟩) 1 1) (w.alloc (.cells t.cs.toArray 27)):=by kernel_rfl
theorem ResRow.step {w w0 w':World} {base:Nat} {v:Value} {L:List Tr} (h:ResRow w base v L) (hb:Below w0.heap.size w0 w') (e:w0.heap=w.heap):ResRow w' base v L:=by
  have h0:ResRow w0 base v L:=by unfold ResRow World.ownsRow at h ⊢;rw[e];exact h
  exact World.ownsRow.kept (row:=none) h0 ⟨hb.os,hb.tape,hb.output,hb.size,fun i hi _=>hb.block i hi⟩ (by cases hv:v.ownBlock<;>simp)
theorem sumN_take {α:Type} {l:List α} {f:α→Nat} {j:Nat} (h:j<l.length):((l.take (j+1)).map f).sum=((l.take j).map f).sum+f l[j]:=by
  rw[List.take_succ_eq_append_getElem h,List.map_append,List.sum_append,List.map_singleton,List.sum_singleton]
theorem sumN_take_le {α:Type} {l:List α} {f:α→Nat}:∀(j:Nat),((l.take j).map f).sum≤(l.map f).sum:=by
  induction l with
  | nil=>intro j;simp
  | cons a l ih=>intro j;cases j with
    | zero=>simp
    | succ j=>have:=ih j;rw[List.take_succ_cons,List.map_cons,List.map_cons,List.sum_cons,List.sum_cons];omega
end Go.Proofs.YtgmpfnfomgadeaaGreat

/- looks.Plan: the looks as they lie; Index, Late, isLook. -/
set_option linter.unusedSimpArgs false
set_option linter.unusedVariables false
set_option maxHeartbeats 4000000
set_option maxRecDepth 100000
namespace Go.Proofs.YtgmpfnfomgadeaaGreat
open Go.RowKit
theorem Tr.In.frame {w w':World} {X:Nat→Prop} (hs:w.heap.size≤w'.heap.size) (hk:∀b,b<w.heap.size→¬X b→w'.heap[b]?=w.heap[b]?):∀(k:Nat) (t:Tr),(∀b,X b→Tr.Off b k t)→Tr.In w k t→Tr.In w' k t
  | 0,_,_,h=>h
  | k+1,t,hf,h=>⟨h.1,h.2.1,fun h0=>by
      obtain ⟨b,off,e,hlt,hr⟩:=h.2.2.1 h0
      have hx:¬X b:=fun q=>(hf b q).1 h0 b off e rfl
      refine ⟨b,off,e,Nat.lt_of_lt_of_le hlt hs,fun j hj i v hv=>?_⟩
      have:=hr j hj i v hv
      unfold World.cell? at this ⊢
      rw[hk b hlt hx];exact this,fun j hj=>Tr.In.frame hs hk k _ (fun b q=>(hf b q).2 _ (List.getElem_mem hj)) (h.2.2.2 j hj)⟩
theorem Tr.Sol.frame {w w':World} {X:Nat→Prop} (hk:∀b,b<w.heap.size→¬X b→w'.heap[b]?=w.heap[b]?):∀(k:Nat) (t:Tr),(∀b,X b→Tr.Off b k t)→Tr.In w k t→Tr.Sol w k t→Tr.Sol w' k t
  | 0,_,_,_,_=>trivial
  | k+1,t,hf,h,hs=>⟨fun h0 b off e=>by
      obtain ⟨b',off',e',hlt,_⟩:=h.2.2.1 h0
      rw[e] at e'
      injection e' with e'
      injection e' with e1 e2
      subst e1;subst e2
      rw[World.frozen?_of_block (w:=w) (hk b hlt (fun q=>(hf b q).1 h0 b off e rfl))]
      exact hs.1 h0 b off e,fun p hp=>by
      obtain ⟨j,hj,rfl⟩:=List.getElem_of_mem hp
      exact Tr.Sol.frame hk k _ (fun b q=>(hf b q).2 _ hp) (h.2.2.2 j hj) (hs.2 _ hp)⟩
theorem Tr.Ins.frame {w w':World} {X:Nat→Prop} (hs:w.heap.size≤w'.heap.size) (hk:∀b,b<w.heap.size→¬X b→w'.heap[b]?=w.heap[b]?) {k:Nat} {t:Tr} (hf:∀b,X b→Tr.Off b k t) (h:Tr.Ins w k t):Tr.Ins w' k t:=⟨Tr.In.frame hs hk k t hf h.1,Tr.Sol.frame hk k t hf h.1 h.2⟩
theorem OwnW.frame {w w':World} {X:Nat→Prop} (hk:∀b,b<w.heap.size→¬X b→w'.heap[b]?=w.heap[b]?):∀{k lo hi:Nat} {t:Tr},(∀b,X b→Tr.Off b k t)→OwnW w k lo hi t→OwnW w' k lo hi t
  | 0,_,_,_,_,h=>h
  | k+1,lo,hi,t,hf,⟨m,h1,h2,h3⟩=>⟨m,h1,fun h0=>by
      obtain ⟨g,cs,e,a,b,c⟩:=h2 h0
      exact ⟨g,cs,e,a,b,(hk g (At.lt c) (fun q=>(hf g q).1 h0 g 0 e rfl)).trans c⟩,h3.mono (fun a b p _ hp q=>OwnW.frame hk (fun b q=>(hf b q).2 p hp) q) (fun _ _ _ q=>q.le)⟩
theorem OwnL.mem {G:Nat→Nat→Tr→Prop} (hl:∀a b p,G a b p→a≤b) {hi:Nat}:∀{ps:List Tr} {m:Nat} {p:Tr},OwnL G hi m ps→p∈ps→∃a b,m≤a∧b≤hi∧G a b p
  | q::ps,m,p,⟨c,h1,h2⟩,hp=>by
    rcases List.mem_cons.1 hp with rfl | hp
    · exact ⟨m,c,Nat.le_refl _,OwnL.le hl h2,h1⟩
    · obtain ⟨a,b,h3,h4,h5⟩:=OwnL.mem hl h2 hp
      exact ⟨a,b,Nat.le_trans (hl _ _ _ h1) h3,h4,h5⟩
theorem OwnW.off {w:World} {b:Nat}:∀{k lo hi:Nat} {t:Tr},OwnW w k lo hi t→b<lo∨hi≤b→Tr.Off b k t
  | 0,_,_,_,_,_=>trivial
  | k+1,lo,hi,t,⟨m,h1,h2,h3⟩,hb=>⟨fun h0 b' off e q=>by
      obtain ⟨g,cs,e',a,c,_⟩:=h2 h0
      rw[e] at e'
      injection e' with e'
      injection e' with e1
      have:=OwnL.le (fun _ _ _ q=>OwnW.le q) h3
      omega,fun p hp=>by
      obtain ⟨a,c,h4,h5,h6⟩:=OwnL.mem (fun _ _ _ q=>OwnW.le q) h3 hp
      exact h6.off (by omega)⟩
theorem bare_ins {w:World}:∀{k:Nat} {t:Tr},Tr.Ins w k t→Tr.Ins w k (bareT t)
  | 0,_,h=>h
  | k+1,t,h=>by cases t;exact h
theorem bare_own {w:World}:∀{k lo hi:Nat} {t:Tr},OwnW w k lo hi t→OwnW w k lo hi (bareT t)
  | 0,_,_,_,h=>h
  | k+1,_,_,t,h=>by cases t;exact h
theorem bare_off {b:Nat}:∀{k:Nat} {t:Tr},Tr.Off b k t→Tr.Off b k (bareT t)
  | 0,_,h=>h
  | k+1,t,h=>by cases t;exact h
theorem bare_mass (k:Nat) (t:Tr):massS k (bareT t)=massS k t:=by cases k<;>cases t<;>rfl
theorem bare_slim:∀{k:Nat} {t:Tr},slimS k t→slimS k (bareT t)
  | 0,_,h=>h
  | k+1,t,h=>by cases t;exact h
structure LkOk (w:World) (t:Tr):Prop where
  ins:Tr.Ins w 40 t
  own:∃lo hi,OwnW w 40 lo hi t
  mass:massS 40 t≤4000000
  slim:slimS 40 t
theorem LkOk.frame {w w':World} {X:Nat→Prop} {t:Tr} (h:LkOk w t) (hs:w.heap.size≤w'.heap.size) (hk:∀b,b<w.heap.size→¬X b→w'.heap[b]?=w.heap[b]?) (hf:∀b,X b→Tr.Off b 40 t):LkOk w' t :=
  ⟨h.ins.frame hs hk hf,by obtain ⟨lo,hi,q⟩:=h.own;exact ⟨lo,hi,q.frame hk hf⟩,h.mass,h.slim⟩
theorem LkOk.next {w w':World} {t:Tr} (h:LkOk w t) (hb:Below w.heap.size w w'):LkOk w' t:=h.frame (X:=fun _=>False) hb.size (fun b hlt _=>hb.block b hlt) (fun _ q=>q.elim)
def LksAt (w:World) (v:Value) (L:List Tr):Prop:=Pats w 40 v L∧∀t∈L,LkOk w t
theorem LksAt.next {w w':World} {v:Value} {L:List Tr} (h:LksAt w v L) (hb:Below w.heap.size w w'):LksAt w' v L:=⟨h.1.next hb,fun t ht=>(h.2 t ht).next hb⟩
def idxFrom (f:Tr→Bool):List Tr→Nat→Int
  | [],_=>-1
  | q::L,i=>if f q=true then i else idxFrom f L (i+1)
def idxS (L:List Tr) (t:Tr):Int:=idxFrom (fun q=>sameS 40 40 q (bareT t)) L 0
theorem idx_step {f:Tr→Bool} {L:List Tr} {j:Nat} (hj:j<L.length) (hf:f L[j]=false):idxFrom f (L.drop j) j=idxFrom f (L.drop (j+1)) (j+1):=by
  rw[List.drop_eq_getElem_cons hj,idxFrom,if_neg (by rw[hf];decide)]
theorem idx_found {f:Tr→Bool} {L:List Tr} {j:Nat} (hj:j<L.length) (hf:f L[j]=true):idxFrom f (L.drop j) j=j:=by
  rw[List.drop_eq_getElem_cons hj,idxFrom,if_pos hf]
theorem tIndexFn1 (b:Nat) (q t:Tr) (w:World) (hq:LkOk w q) (ht:Tr.Ins w 40 t) (hb:At w b 27 t.cs.toArray) :
    Calls Tryz.prog 35 #[.agg q.cs.toArray,.pointer (some ⟨b,0,none⟩)] w fun e w'=>e=.returned (.bool (sameS 40 40 q t))∧Below w.heap.size w w':=by
  obtain ⟨lo,hi,how⟩:=hq.own
  have hB:Below w.heap.size w (w.alloc (.cells q.cs.toArray 27)):=(Below.refl _ _).alloc (Nat.le_refl _) _
  have HS:=Lib.hid (tSame lo hi q t (w.alloc (.cells q.cs.toArray 27)) (hq.ins.next hB) (ht.next hB) (how.next hB) hq.mass)
  have hA:At (w.alloc (.cells q.cs.toArray 27)) w.heap.size 27 q.cs.toArray:=At.new _ _ _
  have HT:=Lib.hid (At.below hb hB hb.lt)
  have HB:=Lib.hid hB
  clear hB how hq ht hb
  go_enter Tryz.func35,Tryz.ntmps35
  go_wp2_with (first
    | (with_reducible show wpList _ _ _ (⟨some 4,.load 27 _,_,_,_,_⟩::_) _ _
       refine wpList_load_row rfl 27 _ rfl w.heap.size rfl 27 q.cs.toArray (0,0) _ hA Tryz.underlying27 rfl (by kernel_rfl) ?_)
    | (with_reducible show wpList _ _ _ (⟨some 5,.load 27 _,_,_,_,_⟩::_) _ _
       refine wpList_load_row rfl 27 _ rfl b rfl 27 t.cs.toArray (0,0) _ HT.out Tryz.underlying27 rfl (by kernel_rfl) ?_)
    | fail)
  refine HS.out.mono ?_
  rintro e w2 ⟨rfl,hb2⟩
  have HB2:=Lib.hid (HB.out.trans (hb2.mono HB.out.size))
  clear hb2 hA
  go_wp2_with fail
  go_ret
  exact ⟨rfl,HB2.out⟩
theorem tIsLook (q:Tr) (w:World) :
    Calls Tryz.prog 39 #[.agg q.cs.toArray] w fun e w'=>e=.returned (.bool (decide (8≤q.kind∧q.kind≤11)))∧Below w.heap.size w w':=by
  have hA:At (w.alloc (.cells q.cs.toArray 27)) w.heap.size 27 q.cs.toArray:=At.new _ _ _
  have c0:=(At.tr_cell hA).1
  have HB:Hid (Below w.heap.size w (w.alloc (.cells q.cs.toArray 27))):=Lib.hid ((Below.refl _ _).alloc (Nat.le_refl _) _)
  clear hA
  go_enter Tryz.func39,Tryz.ntmps39
  by_cases h8:q.kind=8
  · have d8:=(int_eq h8).1
    have HF:Hid (decide (8≤q.kind∧q.kind≤11)=true):=Lib.hid (decide_eq_true (by omega))
    clear h8
    go_wp2_with fail
    go_ret
    exact ⟨ret_bool HF.out.symm,HB.out⟩
  · have d8:=(int_ne h8).1
    by_cases h9:q.kind=9
    · have d9:=(int_eq h9).1
      have HF:Hid (decide (8≤q.kind∧q.kind≤11)=true):=Lib.hid (decide_eq_true (by omega))
      clear h8 h9
      go_wp2_with fail
      go_ret
      exact ⟨ret_bool HF.out.symm,HB.out⟩
    · have d9:=(int_ne h9).1
      by_cases h10:q.kind=10
      · have d10:=(int_eq h10).1
        have HF:Hid (decide (8≤q.kind∧q.kind≤11)=true):=Lib.hid (decide_eq_true (by omega))
        clear h8 h9 h10
        go_wp2_with fail
        go_ret
        exact ⟨ret_bool HF.out.symm,HB.out⟩
      · have d10:=(int_ne h10).1
        by_cases h11:q.kind=11
        · have d11:=(int_eq h11).1
          have HF:Hid (decide (8≤q.kind∧q.kind≤11)=true):=Lib.hid (decide_eq_true (by omega))
          clear h8 h9 h10 h11
          go_wp2_with fail
          go_ret
          exact ⟨ret_bool HF.out.symm,HB.out⟩
        · have d11:=(int_ne h11).1
          have HF:Hid (decide (8≤q.kind∧q.kind≤11)=false):=Lib.hid (decide_eq_false (by omega))
          clear h8 h9 h10 h11
          go_wp2_with fail
          go_ret
          exact ⟨ret_bool HF.out.symm,HB.out⟩
theorem tIdxIndex (v:Value) (L:List Tr) (w:World) (hL:LksAt w v L) (hl:L.length≤1000000) (t:Tr) (b:Nat) (ht:Tr.Ins w 40 t) (hb:At w b 27 t.cs.toArray) :
    Calls Tryz.prog 34 #[v,.func (.func 35) #[] #[.pointer (some ⟨b,0,none⟩)]] w fun e w'=>e=.returned (.int .i64 (idxFrom (fun q=>sameS 40 40 q t) L 0))∧Below w.heap.size w w':=by
  obtain ⟨A,c,rfl,hrow,_⟩:=id hL.1
  have HL:=Lib.hid hL
  have HR:=Lib.hid hrow
  have HT:=Lib.hid ht
  have HA:=Lib.hid hb
  clear ht hb
  clear hL hrow
  go_enter Tryz.func34,Tryz.ntmps34
  go_wp2_with fail
  go_loopw [8] (fun i wr=>∃j:Nat,j≤L.length∧i=.int .i64 j∧Hid (idxFrom (fun q=>sameS 40 40 q t) L 0=idxFrom (fun q=>sameS 40 40 q t) (L.drop j) j)∧Hid (Below w.heap.size w wr)) (fun i _=>L.length-(intOf i).toNat)
  case atStart=>exact ⟨0,Nat.zero_le _,rfl,Lib.hid (by rw[List.drop_zero]),Lib.hid (Below.refl _ _)⟩
  case round =>
    obtain ⟨j,hj,rfl,HI,HB⟩:=hrel
    by_cases hlt:j<L.length
    · obtain ⟨b1,o1,rfl,hb1,hr1⟩:=HR.out (by omega)
      have HX:=Lib.hid (range_below (hr1 j hlt) hb1 (Nat.le_refl _) HB.out)
      have hq:=(HL.out.2 _ (List.getElem_mem hlt)).next HB.out
      have HSt:=Lib.hid (idx_step (f:=fun q=>sameS 40 40 q t) hlt)
      have HFo:=Lib.hid (idx_found (f:=fun q=>sameS 40 40 q t) hlt)
      have hjz:(0:Int)≤(j:Int):=by omega
      have hjn:(j:Int)<(L.length:Int):=by omega
      obtain ⟨q,hqq⟩:∃q,q=L[j]:=⟨_,rfl⟩
      rw[←hqq] at HX hq HSt HFo
      have HC:=Lib.hid (tIndexFn1 b q t wr hq (HT.out.next HB.out) (At.below HA.out HB.out HA.out.lt))
      clear hb1 hr1 hq hqq
      go_wp2_with (first
        | (with_reducible show wpList _ _ _ (⟨some 15,.load 27 _,_,_,_,_⟩::_) _ _
           refine wpList_load_mid rfl 27 _ rfl b1 (o1+j*9) rfl q.cs _ HX.out Tryz.underlying27 rfl (by rw[Tr.cs_length];kernel_rfl) ?_)
        | fail)
      refine HC.out.mono ?_
      rintro e w2 ⟨rfl,hb2⟩
      have HB2:=Lib.hid (HB.out.trans (hb2.mono HB.out.size))
      clear hb2
      obtain ⟨r,hrr⟩:∃r,r=(sameS 40 40 q t):=⟨_,rfl⟩
      have HRr:=Lib.hid hrr
      rw[←hrr]
      clear hrr
      cases r with
      | true =>
        have HF:Hid (idxFrom (fun q=>sameS 40 40 q t) L 0=j):=Lib.hid (by rw[HI.out];exact HFo.out HRr.out.symm)
        go_wp2_with fail
        go_ret
        exact ⟨by rw[HF.out];rfl,HB2.out⟩
      | false =>
        have HF:Hid (idxFrom (fun q=>sameS 40 40 q t) L 0=idxFrom (fun q=>sameS 40 40 q t) (L.drop (j+1)) (j+1)):=Lib.hid (by rw[HI.out];exact HSt.out HRr.out.symm)
        go_wp2_with fail
        exact ⟨⟨j+1,by omega,by go_num,HF,HB2⟩,by simp[intOf];omega⟩
    · obtain rfl:j=L.length:=by omega
      have HF:Hid (idxFrom (fun q=>sameS 40 40 q t) L 0=-1):=Lib.hid (by rw[HI.out,List.drop_length];rfl)
      go_wp2_with fail
      go_ret
      exact ⟨by rw[HF.out];rfl,HB.out⟩
theorem idx_nonneg {f:Tr→Bool}:∀(L:List Tr) (i:Nat),(0≤idxFrom f L i↔L.any f=true)
  | [],i=>by simp[idxFrom]
  | q::L,i=>by
    unfold idxFrom
    rw[List.any_cons]
    by_cases h:f q=true
    · rw[if_pos h,h,Bool.true_or];simp
    · have h':f q=false:=by simpa using h
      rw[if_neg h,h',Bool.false_or]
      exact idx_nonneg L (i+1)
theorem tIndex (v:Value) (L:List Tr) (t:Tr) (w:World) (hL:LksAt w v L) (hl:L.length≤1000000) (ht:Tr.Ins w 40 t) :
    Calls Tryz.prog 16 #[.agg #[v],.agg t.cs.toArray] w fun e w'=>e=.returned (.int .i64 (idxS L t))∧Below w.heap.size w w':=by
  obtain ⟨w2,hw2⟩:∃w2,w2=(w.alloc (.cells #[v] 34)).alloc (.cells (bareT t).cs.toArray 27):=⟨_,rfl⟩
  have hB:Below w.heap.size w w2:=by rw[hw2];exact below_two _ _
  have hA1:At w2 w.heap.size 34 #[v]:=by rw[hw2];exact (At.new _ _ _).alloc _
  have hA2:At w2 (w.heap.size+1) 27 (bareT t).cs.toArray:=by rw[hw2];exact at_new' (w.alloc (.cells #[v] 34)) (w.heap.size+1) 27 (cs:=(bareT t).cs.toArray) (by simp)
  have c0:w2.cell? ⟨w.heap.size,0,none⟩=some v:=hA1.cell 0
  have HI:=Lib.hid (tIdxIndex v L w2 (hL.next hB) hl (bareT t) (w.heap.size+1) (bare_ins (ht.next hB)) hA2)
  have HB:=Lib.hid hB
  have hA3:=at_new' (w.alloc (.cells #[v] 34)) (w.heap.size+1) 27 (cs:=t.cs.toArray) (by simp)
  have f8:=hA3.free 8
  have q8:=hA3.cell 8
  rw[bareT_cs,List.setIfInBounds_toArray] at hw2
  have HW:=Lib.hid hw2
  unfold idxS
  clear hA1 hA2 hB hL hw2 hA3 ht
  go_enter Tryz.func16,Tryz.ntmps16
  rw[HW.out] at c0
  go_wp2_with fail
  rw[←HW.out]
  refine HI.out.mono ?_
  rintro e w3 ⟨rfl,hb3⟩
  have HB3:=Lib.hid (HB.out.trans (hb3.mono HB.out.size))
  clear hb3 c0 f8 q8
  go_wp2_with fail
  go_ret
  exact ⟨rfl,HB3.out⟩
end Go.Proofs.YtgmpfnfomgadeaaGreat
