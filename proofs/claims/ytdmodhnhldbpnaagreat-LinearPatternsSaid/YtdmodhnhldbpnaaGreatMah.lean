/- Joined: FewSlim, ArenaAwake, LawPuts9, NodeKey, ArenaAid, RefLooks, RefLooks3, ArenaIs. -/
import Derived.Test.YtdmodhnhldbpnaaGreatMzy
import Derived.Test.YtdmodhnhldbpnaaGreatMac
import Derived.Test.YtdmodhnhldbpnaaGreatMaf
import Derived.Test.YtdmodhnhldbpnaaGreatMad
import Derived.Deep.QuietTactic
import Derived.BigQuiet
import Derived.Maps.OwnSet
import Derived.DeepKeys4
import Derived.Test.YtdmodhnhldbpnaaGreatMag
import Derived.Deep.RegionHeld3
import Derived.StillTailTactics
import Derived.Maps.AppendAt
import Derived.Deep.AppendSrc
import Derived.Test.YtdmodhnhldbpnaaGreatAid
/- A pattern that the laws look at has few parts everywhere. No program is walked here. -/
set_option linter.unusedSimpArgs false
set_option linter.unusedVariables false
set_option maxRecDepth 100000
set_option maxHeartbeats 8000000
namespace Go.Proofs.YtdmodhnhldbpnaaGreat
section
open Go.RowKit
theorem zlL {w:World}:∀(k:Nat) (m:Int) (t:Tr),Tr.In w k t->0<=m->1<=zaX k m t
 | 0,_,_,h,_=>h.elim
 | k+1,m,t,h,hm=>by
  rw[show zaX (k+1) m t=if m<1 then 5000 else zeh (t.parts.map (zaX k (m-1))) 1 from rfl]
  split
  ·omega
  ·have:=zdM (5000+2000*(m-1)) (by omega) (t.parts.map (zaX k (m-1))) 1 (by
    intro x hx
    rw[yN] at hx
    obtain ⟨p,_,rfl⟩:=hx
    exact zdr k (m-1) p (by omega)) (by omega) (by omega)
   omega
theorem ziT:∀(l:List Int) (n:Int),(∀x∈l,1<=x)->zeh l n<=2000->(l.length:Int)+n<=2000/\∀x∈l,1<=n->x<=2000
 | [],n,_,h=>by
  have:n<=2000:=h
  exact ⟨by simp;omega,fun x hx=>by cases hx⟩
 | x::r,n,hl,h=>by
  have hx:=hl x (by simp)
  have h':(if 2000<n+x then n+x else zeh r (n+x))<=2000:=h
  split at h'
  ·omega
  ·have ih:=ziT r (n+x) (fun y hy=>hl y (qX _ hy)) h'
   refine ⟨by rw[jX];have:=ih.1;omega,fun y hy hn=>?_⟩
   rcases List.mem_cons.1 hy with rfl | hy
   ·omega
   ·exact ih.2 y hy (by omega)
theorem zkz {w:World}:∀(k:Nat) (m:Int) (t:Tr),Tr.In w k t->0<=m->zaX k m t<=2000->zeP k t
 | 0,_,_,_,_,_=>trivial
 | k+1,m,t,h,hm,hc=>by
  rw[show zaX (k+1) m t=if m<1 then 5000 else zeh (t.parts.map (zaX k (m-1))) 1 from rfl] at hc
  split at hc
  ·omega
  ·have hin:∀p∈t.parts,Tr.In w k p:=fun p hp=>by
    obtain ⟨j,hj,rfl⟩:=yT hp
    exact h.2.2.2 j hj
   obtain ⟨h1,h2⟩:=ziT _ 1 (by
    intro x hx
    rw[yN] at hx
    obtain ⟨p,hp,rfl⟩:=hx
    exact zlL k (m-1) p (hin p hp) (by omega)) hc
   rw[qS] at h1
   exact ⟨by omega,fun p hp=>zkz k (m-1) p (hin p hp) (by omega) (h2 _ (List.mem_map.2 ⟨p,hp,rfl⟩) (by omega))⟩
end

section
open Go.RowKit
theorem zm8:zbn.Ok:=⟨by show (0:Nat)<_;decide,by show (0:Nat)<_;decide,by show (0:Nat)<_;decide,by show (0:Nat)<_;decide⟩
section
variable {AA:World->Value->List Nd->(Nat->Prop)->Prop}
end
end

section
open Go.RowKit
theorem ze4 (ns:List Nd) (x:Nd):zaM ns x<=ns.length:=List.findIdx_le_length
theorem zph {ns:List Nd} {x:Nd} (h:zaM ns x<ns.length):zaQ ns (zaM ns x)=x:=by
 rw[zjI h]
 have:=@List.findIdx_getElem Nd (fun y=>y.eqb x) ns h
 exact (Nd.eqb_iff _ _).1 this
theorem ziU {ns:List Nd} {x:Nd} {t:Nat} (h:t<zaM ns x):(zaQ ns t).eqb x=false:=by
 have hl:=ze4 ns x
 rw[zjI (by omega)]
 have:=List.not_of_lt_findIdx h
 simpa using this
theorem zm9 {ns:List Nd} {x:Nd} (hr:x.right ns.length=true):zaM ns x<(zdI ns x).length/\zaQ (zdI ns x) (zaM ns x)=x:=by
 unfold zdI
 rw[if_pos hr]
 by_cases h:zaM ns x<ns.length
 ·rw[if_pos h];exact ⟨h,zph h⟩
 ·rw[if_neg h]
  have e:zaM ns x=ns.length:=by have:=ze4 ns x;omega
  refine ⟨by rw[e,qF];simp,?_⟩
  unfold zaQ
  rw[e,yK zqn,kK];rfl
section
variable {AA:World->Value->List Nd->(Nat->Prop)->Prop}
end
end

section
open Go.RowKit Go.Maps
theorem zpi:laidOutB Tryz.prog=true:=by kernel_rfl
theorem zrI:(61:TypeId)<Tryz.prog.types.size:=jB (by kernel_rfl)
theorem zpj:(match Tryz.prog.underlying 61 with | some (.array _ _) | some (.struct _)=>true | _=>false)=true:=by kernel_rfl
theorem zjV:Tryz.prog.keyType 61=true:=by kernel_rfl
theorem zfF:Keyed Tryz.prog 61:=Keyed.of_law (deep_law_laid zpi (m:=4) (by omega) zrI (by kernel_rfl) zpj)
theorem ziV:Tryz.prog.cellsOf 61=8:=by kernel_rfl
theorem ziW:Tryz.prog.cellsOf 46=4:=by kernel_rfl
theorem zna:Tryz.prog.cellsOf 3=1:=by kernel_rfl
theorem znb:Tryz.prog.cellsOf 44=1:=by kernel_rfl
theorem zlM:Tryz.prog.cellsOf 4=1:=by kernel_rfl
theorem zuK:2<=Tryz.prog.types.size:=jB (by kernel_rfl)
def Nd.lits (x:Nd):List Lit:=[.int .i64 x.kind,.int .u64 x.set.w0,.int .u64 x.set.w1,.int .u64 x.set.w2,.int .u64 x.set.w3,.int .i64 x.a,.int .i64 x.b,.bool x.neg]
def znc (x:Nd):Lit:=.string (keyBytes x.lits)
theorem zlN (x:Nd):(Value.agg x.cs.toArray).formed Tryz.prog 61=true:=by
 simp[Value.formed,Tryz.underlying61,ziV,Nd.cs]
theorem zh7 (d:Nat) {z:Int} (h:I64 z):Tryz.prog.keyLits (d+1) 3 [.int .i64 z]=some [.int .i64 z]:=by
 have hw:(Lit.int .i64 z).wf=true:=WalkArith.wf_i64 (by unfold I64 at h;omega)
 simp[Program.keyLits,Tryz.underlying3,hw]
theorem zgj (d:Nat) {z:Nat} (h:U64 z):Tryz.prog.keyLits (d+1) 44 [.int .u64 z]=some [.int .u64 z]:=by
 have hw:(Lit.int .u64 z).wf=true:=by unfold U64 at h;simp[Lit.wf,IntKind.min,IntKind.max,IntKind.signed,IntKind.bits];omega
 simp[Program.keyLits,Tryz.underlying44,hw]
theorem znd (d:Nat) (b:Bool):Tryz.prog.keyLits (d+1) 4 [.bool b]=some [.bool b]:=by
 simp[Program.keyLits,Tryz.underlying4]
theorem zpk (d:Nat) {s:St} (h:s.Ok):Tryz.prog.keyLits (d+2) 46 [.int .u64 s.w0,.int .u64 s.w1,.int .u64 s.w2,.int .u64 s.w3]=some [.int .u64 s.w0,.int .u64 s.w1,.int .u64 s.w2,.int .u64 s.w3]:=by
 have h0:=zgj d (h.word 0)
 have h1:=zgj d (h.word 1)
 have h2:=zgj d (h.word 2)
 have h3:=zgj d (h.word 3)
 simp[St.word] at h0 h1 h2 h3
 unfold Program.keyLits
 simp only[Tryz.underlying46]
 rw[if_pos (by rw[ziW];rfl),znb]
 simp[kF,h0,h1,h2,h3]
theorem zne (d:Nat) {x:Nd} (h:zbQ x):Tryz.prog.keyLits (d+3) 61 x.cs=some x.lits:=by
 have h0:=zh7 (d+1) h.1
 have h1:=zpk d h.2.1
 have h2:=zh7 (d+1) h.2.2.1
 have h3:=zh7 (d+1) h.2.2.2
 have h4:=znd (d+1) x.neg
 unfold Program.keyLits
 simp only[Tryz.underlying61]
 rw[if_pos (by rw[ziV];exact ⟨rfl,by simp⟩)]
 simp[ziW,zna,zlM,Nd.cs,Nd.lits,h0,h1,h2,h3,h4]
theorem zeA (x:Nd) (h:zbQ x):keyOf Tryz.prog 61 (.agg x.cs.toArray)=some (znc x):=by
 have hl:=zne (Tryz.prog.types.size-2) h
 rw[show Tryz.prog.types.size-2+3=Tryz.prog.types.size+1 by have:=zuK;omega] at hl
 unfold keyOf
 rw[Tryz.underlying61]
 show (if Tryz.prog.keyType 61&&(Value.agg x.cs.toArray).formed Tryz.prog 61 then _ else none)=_
 rw[zjV,zlN]
 show (Tryz.prog.keyLits (Tryz.prog.types.size+1) 61 (Value.agg x.cs.toArray).cells.toList).map _=_
 rw[show (Value.agg x.cs.toArray).cells.toList=x.cs from rfl,hl]
 rfl
theorem ztr {x y:Nd} (h:x.cs=y.cs):x=y:=by
 obtain ⟨k,⟨a0,a1,a2,a3⟩,a,b,n⟩:=x
 obtain ⟨k',⟨b0,b1,b2,b3⟩,a',b',n'⟩:=y
 simp[Nd.cs] at h
 simp[h]
 omega
theorem zpl {x y:Nd} (hx:zbQ x) (hy:zbQ y) (h:znc x=znc y):x=y:=by
 have e:=zfF.inj (zeA x hx) (by rw[h];exact zeA y hy)
 injection e with e
 exact ztr (congrArg Array.toList e)
def zbA (w:World) (b:Nat) (ns:List Nd):Prop:=∃D:DataW Unit,w.ownsMap Tryz.prog 61 (plainElem Tryz.prog 3) b ns.length D /\
 ∀x,zbQ x->has D (znc x)=decide (zaM ns x<ns.length)/\(zaM ns x<ns.length->D.atKey (znc x) (.lit (.int .i64 0))=.lit (.int .i64 (zaM ns x)))
theorem zbA.made (w:World):zbA (w.alloc (.map #[] 0)) w.heap.size []:=⟨_,World.ownsMap_made _ _ _ _,fun x _=>⟨rfl,fun h=>absurd h (jD _)⟩⟩
theorem zbA.lt {w:World} {b:Nat} {ns:List Nd} (h:zbA w b ns):b<w.heap.size:=by obtain ⟨D,h1,_⟩:=h;exact h1.lt
theorem zbA.kept {w w':World} {b:Nat} {ns:List Nd} (h:zbA w b ns) (hb:w'.heap[b]?=w.heap[b]?):zbA w' b ns:=by
 obtain ⟨D,⟨es,clock,h1,h2⟩,h3⟩:=h
 exact ⟨D,⟨es,clock,hb.trans h1,h2⟩,h3⟩
theorem zlO (ns:List Nd) (y x:Nd):zaM (ns++[y]) x=if zaM ns x<ns.length then zaM ns x else if y.eqb x=true then ns.length else ns.length+1:=by
 unfold zaM
 rw[List.findIdx_append]
 split
 ·rfl
 ·have e:ns.findIdx (fun y=>y.eqb x)=ns.length:=by
   have:=@List.findIdx_le_length Nd (fun y=>y.eqb x) ns
   omega
  cases hb:y.eqb x with
  | true=>simp[List.findIdx_cons,hb]
  | false=>simp[List.findIdx_cons,hb];omega
theorem zbA.push {w:World} {b:Nat} {ns:List Nd} {D:DataW Unit} {y:Nd} (hy:zbQ y) (hn:¬zaM ns y<ns.length)
  (h:∀x,zbQ x->has D (znc x)=decide (zaM ns x<ns.length)/\(zaM ns x<ns.length->D.atKey (znc x) (.lit (.int .i64 0))=.lit (.int .i64 (zaM ns x)))) (hm:IsMap D)
  (hw:w.ownsMap Tryz.prog 61 (plainElem Tryz.prog 3) b (ns.length+1) (D.put (znc y) (.lit (.int .i64 ns.length)))):zbA w b (ns++[y]):=by
 refine ⟨_,by rw[qF];exact hw,fun x hx=>?_⟩
 rw[zlO,qF,yE]
 obtain ⟨h1,h2⟩:=h x hx
 by_cases e:y=x
 ·subst e
  rw[if_neg hn,if_pos (Nd.eqb_self _)]
  refine ⟨?_,fun _=>?_⟩
  ·rw[has_put_same hm (zfF.key (zeA y hy))];simp
  ·rw[atKey_put_same hm (zfF.key (zeA y hy))]
 ·have hk:znc y≠znc x:=fun q=>e (zpl hy hx q)
  rw[if_neg (fun q=>e ((Nd.eqb_iff _ _).1 q))]
  refine ⟨?_,?_⟩
  ·rw[has_put_other (fun q=>hk q.symm),h1]
   by_cases hf:zaM ns x<ns.length
   ·rw[if_pos hf,qD hf,qD (by omega)]
   ·rw[if_neg hf,qE hf,qE (by omega)]
  ·intro hlt
   by_cases hf:zaM ns x<ns.length
   ·rw[if_pos hf,atKey_put_other (fun q=>hk q.symm)];exact h2 hf
   ·rw[if_neg hf] at hlt;omega
theorem zkA (w:World):(zeroValue 3).run Tryz.prog w=.ok (.int .i64 0) w:=by kernel_rfl
theorem zbA.look {w:World} {m:Nat} {ns:List Nd} {x:Nd} (h:zbA w m ns) (hx:zbQ x):(Instr.lookup 67 (.map (some m)) (.agg x.cs.toArray) true).run Tryz.prog w=.ok (.tuple #[.int .i64 (if zaM ns x<ns.length then (zaM ns x:Int) else 0),.bool (decide (zaM ns x<ns.length))]) w:=by
 obtain ⟨D,hown,hD⟩:=h
 obtain ⟨hh,ha⟩:=hD x hx
 obtain ⟨v,ps,hr,hv⟩:=hown.look_ok zfF Tryz.underlying67 (zkA w) (plainElem_int Tryz.underlying3 (by decide)) (zeA x hx)
 obtain ⟨c,rfl,hc,_⟩:=plainElem_int_inv Tryz.underlying3 hv
 rw[hr,hh]
 have e:=congrArg Prod.fst hc
 by_cases hlt:zaM ns x<ns.length
 ·rw[ha hlt] at e
  simp only[DataW.lit.injEq,Lit.int.injEq,true_and] at e
  rw[if_pos hlt,<-e]
 ·have hn:has D (znc x)=false:=by rw[hh];exact qE hlt
  rw[atKey_of_not_has hn] at e
  simp only[DataW.lit.injEq,Lit.int.injEq,true_and] at e
  rw[if_neg hlt,<-e]
theorem zbA.store {w:World} {m:Nat} {ns:List Nd} {x:Nd} (h:zbA w m ns) (hx:zbQ x) (hl:ns.length<=1000000) (hn:¬zaM ns x<ns.length):∃w',(Instr.mapUpdate 67 (.map (some m)) (.agg x.cs.toArray) (.int .i64 ns.length)).run Tryz.prog w=.ok () w'/\zbA w' m (ns++[x])/\w.grownBy w' (some m):=by
 obtain ⟨D,hown,hD⟩:=h
 have hw:(Lit.int .i64 (ns.length:Int)).wf=true:=WalkArith.wf_i64 (by omega)
 obtain ⟨w',hr,h1,h2⟩:=kO (n:=ns.length) (val:=.int .i64 (ns.length:Int)) hown zfF Tryz.underlying67 (show ns.length<maxLen by unfold maxLen;omega) (zeA x hx) (plainElem_int (H:=Unit) Tryz.underlying3 hw)
 exact ⟨w',hr,zbA.push hx hn hD hown.isMap h1,h2⟩
end

section
open Go.RowKit Go.Maps
theorem zdN {P:Program} {fn:Func} {p u:Tmp} {ty:TypeId} (h:fn.results=#[.cell p ty,.tmp u]) (tmps:Array Value) (w:World) (g:Nat) (t:TypeId) (cs:Array Value) (fr:Nat×Nat) (d:TypeDesc)
  (hp:tmps.getD p undef=.pointer (some ⟨g,0,none⟩)) (hg:w.heap[g]?=some (.cells cs t fr))
  (hu:P.underlying ty=some d) (hd:(match d with | .struct _ | .array _ _=>true | _=>false)=true) (hi:(P.info? ty).map (·.size)=some cs.size) :
  (results fn tmps).run P w=.ok (.tuple #[.agg cs,tmps.getD u undef]) w:=by
 have hp':tmps[p]?.getD undef=.pointer (some ⟨g,0,none⟩):=by simpa using hp
 simp[results,h,hp',asAddr,run_loadVar_row w g t ty cs fr d hg hu hd hi]
theorem zgk {ns:List Nd} {x:Nd} (hf:zaA ns) (hr:x.right ns.length=true) (hx:zbQ x) (hn:¬zaM ns x<ns.length):zaA (ns++[x]):=by
 have hl:(ns++[x]).length=ns.length+1:=by rw[qF];rfl
 have hat:∀j,j<ns.length->zaQ (ns++[x]) j=zaQ ns j:=fun j hj=>by unfold zaQ;rw[jP hj]
 have hlast:zaQ (ns++[x]) ns.length=x:=by unfold zaQ;rw[yK zqn,kK];rfl
 have hne:∀j,j<ns.length->zaQ ns j≠x:=fun j hj e=>hn (by
  rcases Nat.lt_or_ge (zaM ns x) ns.length with h | h
  ·exact h
  ·have h1:=ziU (ns:=ns) (x:=x) (t:=j) (by omega)
   rw[e,Nd.eqb_self] at h1;cases h1)
 refine ⟨fun j hj=>?_,fun i j hi hj e=>?_⟩
 ·rw[hl] at hj
  by_cases c:j<ns.length
  ·rw[hat j c];exact hf.1 j c
  ·obtain rfl:j=ns.length:=by omega
   rw[hlast];exact ⟨hr,hx⟩
 ·rw[hl] at hi hj
  by_cases c:i<ns.length
  ·by_cases d:j<ns.length
   ·rw[hat i c,hat j d] at e;exact hf.2 i j c d e
   ·obtain rfl:j=ns.length:=by omega
    rw[hat i c,hlast] at e;exact absurd e (hne i c)
  ·obtain rfl:i=ns.length:=by omega
   by_cases d:j<ns.length
   ·rw[hlast,hat j d] at e;exact absurd e.symm (hne j d)
   ·omega
section
variable {ops:Array Oper} {o:Oper} {a:Act} {w:World} {K:Act->World->Prop} {Q:Exit->Act->World->Prop} {X:Prop}
theorem zgF {P:Program} (hgd:o.guard=none) (v:Value) (w':World) (hr:(execOp a.eval o).run P w=.ok (.value v) w') (h:K (a.put o.dst v) w'):if Region.wanted o (yielded ops a.tmps)=true then Oper.wp P o a w K Q else X:=by
 have hw:Region.wanted o (yielded ops a.tmps)=true:=by simp[Region.wanted,hgd]
 rw[if_pos hw]
 unfold Oper.wp
 rw[hr]
 exact h
theorem zcU {P:Program} (hgd:o.guard=none) (s x:Operand) (t:TypeId) (ho:o.op=.call {callee:=.builtin .append,args:=#[s,x],argTypes:=#[t,t]}) (v1 v2:Value) (hs:a.eval s=v1) (hx:a.eval x=v2) {R:Value->World->Prop}
  (hrun:∃v w',(Builtin.append_ #[t,t] o.type #[v1,v2]).run P w=.ok v w'/\R v w') (h:∀v w',R v w'->K (a.put o.dst v) w'):if Region.wanted o (yielded ops a.tmps)=true then Oper.wp P o a w K Q else X:=by
 obtain ⟨v,w',hr,hR⟩:=hrun
 refine zgF hgd v w' ?_ (h v w' hR)
 unfold execOp
 simp only[ho,resolve,invoke,builtin,jY,gG,jF,List.map_toArray,jW,kL,hs,hx,hr]
theorem zcV (T E:TypeId) (cs:Array Value) (hgd:o.guard=none) (x:Operand) (u:Value) (ho:o.op=.buildSlice T 1 #[(0,x)]) (hx:a.eval x=u) (hrun:∀w,(Instr.buildSlice T 1 #[(0,u)]).run Tryz.prog w=.ok (.slice (some ⟨w.heap.size,0,none⟩) 1 1) (w.alloc (.cells cs E)))
  (h:∀g w',At w' g E cs->Below w.heap.size w w'->w.heap.size<=g->K (a.put o.dst (.slice (some ⟨g,0,none⟩) 1 1)) w'):if Region.wanted o (yielded ops a.tmps)=true then Oper.wp Tryz.prog o a w K Q else X:=by
 refine zgF hgd (.slice (some ⟨w.heap.size,0,none⟩) 1 1) (w.alloc (.cells cs E)) ?_ (h _ _ (At.new _ _ _) (zqb) zqn)
 unfold execOp
 simp only[ho,List.map_toArray,jW,kL,hx,jY,hrun,jF,gG]
theorem zca {P:Program} (hgd:o.guard=none) (mm x v:Operand) (t:TypeId) (hop:o.op=Op.mapUpdate t mm x v) (v1 v2 v3:Value) (h1:a.eval mm=v1) (h2:a.eval x=v2) (h3:a.eval v=v3) {R:World->Prop}
  (hrun:∃w',(Instr.mapUpdate t v1 v2 v3).run P w=.ok () w'/\R w') (h:∀w',R w'->K (a.put o.dst undef) w'):if Region.wanted o (yielded ops a.tmps)=true then Oper.wp P o a w K Q else X:=by
 have hw:Region.wanted o (yielded ops a.tmps)=true:=by simp[Region.wanted,hgd]
 rw[if_pos hw]
 obtain ⟨w',hr,hR⟩:=hrun
 unfold Oper.wp
 simp[execOp,hop,h1,h2,h3,hr,Result.andThen]
 exact h w' hR
end
theorem ze5 (x:Nd) (w:World):(Instr.buildSlice 22 1 #[(0,.agg #[.int .i64 x.kind,.int .u64 x.set.w0,.int .u64 x.set.w1,.int .u64 x.set.w2,.int .u64 x.set.w3,.int .i64 x.a,.int .i64 x.b,.bool x.neg])]).run Tryz.prog w=.ok (.slice (some ⟨w.heap.size,0,none⟩) 1 1) (w.alloc (.cells x.cs.toArray 61)):=by kernel_rfl
theorem zds (w:World) (v:Value) (ns:List Nd) (x:Nd) (g8:Nat) (ty:TypeId) (h:zbR w 0 v ns) (h8:At w g8 61 x.cs.toArray) (hn:ns.length<=100000) :
  ∃v' w',(Builtin.append_ #[22,22] ty #[v,.slice (some ⟨g8,0,none⟩) 1 1]).run Tryz.prog w=.ok v' w'/\(zbR w' 0 v' (ns++[x])/\w.grownBy w' v.ownBlock/\(v'.ownBlock=v.ownBlock\/v'.ownBlock=some w.heap.size)):=by
 obtain ⟨i,hi,hz,hsz,hby⟩:=yZ zmX
 obtain ⟨v',w',hr,q2,q3,_,q5⟩:=run_append_own_at (P:=Tryz.prog) w 0 22 ty 61 i _ 8 64 Tryz.underlying22 hi hz hsz hby rfl (by omega) v ns.length (ndL ns) h ⟨g8,0,none⟩ 1 1 x.cs rfl (World.news_of_block h8) (by simp[Nd.cs,Value.oneCell']) (by unfold maxLen;omega) (by omega) (qK _)
 exact ⟨v',w',hr,zbR.push q2,q3,q5⟩
theorem zag {w:World} {g:Nat} {ty:TypeId} {x:Nd} (h:At w g ty x.cs.toArray):w.rangeAt g 0 x.cs:=fun j v hv=>by
 rw[yH,h.cell];simpa using hv
theorem zbR.drewN {w:World} {b:Nat} {v:Value} {l:List Nd} (h:zbR w b v l) (q:Nat):zbR (w.drewN q) b v l:=h
end

section
open Go.RowKit
def zpm:Tr->Tr | .node k s A n c p l h _=>.node k s A n c p l h false
def zaY:Nat->Tr->Bool
 | 0,_=>false
 | k+1,t=>decide (8<=t.kind)||t.parts.any (zaY k)
section
variable {ops:Array Oper} {o:Oper} {a:Act} {w:World} {K:Act->World->Prop} {Q:Exit->Act->World->Prop} {X:Prop}
end
theorem zpn {k:Nat} {t:Tr} (h:8<=t.kind):zaY (k+1) t=true:=by show (decide (8<=t.kind)||_)=true;rw[qD h];rfl
theorem zjW {k:Nat} {t:Tr} (h:t.kind<8):zaY (k+1) t=t.parts.any (zaY k):=by show (decide (8<=t.kind)||_)=_;rw[qE (by omega),gK]
end

section
open Go.RowKit
def zh8 (k:Nat):Prop:=∀(t:Tr) (w:World),Tr.In w k t->Calls Tryz.prog 17 #[.agg t.cs.toArray] w fun e w'=>e=.returned (.bool (zaY k t))/\Below w.heap.size w w'
theorem zlP (k:Nat) (ih:zh8 k):zh8 (k+1):=by
 intro t w h
 have hlen:t.parts.length<=9223372036854775807:=by have:=h.2.1;omega
 have hn:=h.2.1.1
 have HI:=zqh h
 have HN:=zqh hn
 have HIH:=zqh ih
 have hA:At (w.alloc (Obj.cells t.cs.toArray 49)) w.heap.size 49 t.cs.toArray:=At.new _ _ _
 have hB:Below w.heap.size w (w.alloc (Obj.cells t.cs.toArray 49)):=zqb
 obtain ⟨c0,c5,c6,c7,c8⟩:=At.tr_cell hA
 rw[hn] at c5
 clear h ih hn c6 c7
 by_cases hk:8<=t.kind
 ·have HL:=zqh (zpn (k:=k) hk)
  have hk1:(7:Int)<t.kind:=by omega
  have hk2:decide ((7:Int)<t.kind)=true:=qD hk1
  rw[HL.out]
  have HB:=zqh hB
  clear hk hA hB
  go_enter Tryz.func17,Tryz.ntmps17
  go_wp2_with fail
  go_ret
  exact ⟨rfl,HB.out⟩
 ·have HL:=zqh (zjW (k:=k) (t:=t) (by omega))
  have hk1:¬(7:Int)<t.kind:=by omega
  have hk2:decide ((7:Int)<t.kind)=false:=qE hk1
  rw[HL.out]
  clear hk
  go_enter Tryz.func17,Tryz.ntmps17
  go_wp2_with fail
  go_loopw [10] (fun i wr=>∃j:Nat,j<=t.parts.length/\i=.int .i64 j/\Hid ((t.parts.take j).any (zaY k)=false)/\Hid (At wr w.heap.size 49 t.cs.toArray)/\Hid (Below w.heap.size w wr)) (fun i _=>t.parts.length-(intOf i).toNat)
  case atStart=>exact ⟨0,qK _,rfl,zqh rfl,zqh hA,zqh hB⟩
  case round =>
   clear c5 c0 c8 hA hB
   obtain ⟨j,hj,rfl,HT,HA,HB⟩:=hrel
   by_cases hlt:j<t.parts.length
   ·obtain ⟨b,off,ha,hb,hra⟩:=HI.out.2.2.1 (by rw[HN.out];omega)
    have HX:=zqh (zaE (hra j hlt) hb zqn HB.out)
    obtain ⟨c0,c5,c6,c7,c8⟩:=At.tr_cell HA.out
    rw[HN.out,ha] at c5
    have hjz:(0:Int)<=(j:Int):=by omega
    have hjn:(j:Int)<(t.parts.length:Int):=by omega
    have HC:=zqh (HIH.out t.parts[j] wr ((HI.out.2.2.2 j hlt).next HB.out))
    have HTs:Hid ((t.parts.take (j+1)).any (zaY k)=((t.parts.take j).any (zaY k)||zaY k t.parts[j])):=zqh (by
     rw[qW hlt,yX];simp)
    have HAll:Hid (zaY k t.parts[j]=true->t.parts.any (zaY k)=true):=zqh (fun q=>List.any_eq_true.2 ⟨_,qG hlt,q⟩)
    obtain ⟨q,hq⟩:∃q,q=t.parts[j]:=⟨_,rfl⟩
    rw[<-hq] at HX HC HTs HAll
    obtain ⟨v,hv⟩:∃v,v=zaY k q:=⟨_,rfl⟩
    rw[<-hv] at HC HTs HAll
    clear hra hb c0 c6 c7 c8 hq hv
    rw[ha]
    clear ha
    go_wp2_with (first
     |(with_reducible show wpList _ _ _ (⟨some 17,.load _ _,_,_,_,_⟩::_) _ _
       refine wpList_load_mid rfl 49 _ rfl b (off+j*9) rfl q.cs _ HX.out Tryz.underlying49 rfl (by rw[Tr.cs_length];kernel_rfl) ?_)
     | fail)
    refine HC.out.mono ?_
    rintro e w3 ⟨rfl,hb3⟩
    have HB3:=zqh (HB.out.trans (hb3.mono HB.out.size))
    have HA3:=zqh (At.below HA.out hb3 HA.out.lt)
    clear hb3 c5
    cases v
    ·have HT3:Hid ((t.parts.take (j+1)).any (zaY k)=false):=zqh (by rw[HTs.out,HT.out];rfl)
     go_wp2_with fail
     exact ⟨⟨j+1,by omega,by go_num,HT3,HA3,HB3⟩,by simp[intOf];omega⟩
    ·have HAl:=zqh (HAll.out rfl)
     go_wp2_with fail
     go_ret
     exact ⟨by rw[HAl.out];rfl,HB3.out⟩
   ·obtain rfl:j=t.parts.length:=by omega
    have HT2:=HT
    rw[qQ] at HT2
    go_wp2_with fail
    go_ret
    exact ⟨by rw[HT2.out];rfl,HB.out⟩
theorem zgG:∀k,zh8 k
 | 0=>fun _ _ h=>h.elim
 | k+1=>zlP k (zgG k)
end

section
open Go.RowKit Go.Maps
structure AT (w:World) (a:Value) (ns:List Nd) (F:Nat->Prop) (g:Nat) (m:Option Nat) (v:Value):Prop where
 ptr:a=.pointer (some ⟨g,0,none⟩)
 box:At w g 69 #[v,.map m]
 row:zbR w 0 v ns
 ids:(m=none/\ns=[])\/∃k,m=some k/\zbA w k ns
 fine:zaA ns
 max:ns.length<=20000
 apart:m≠some g/\v.ownBlock≠some g/\(m=none\/v.ownBlock≠m)
 own:∀b,F b↔b=g\/m=some b\/v.ownBlock=some b
def AA (w:World) (a:Value) (ns:List Nd) (F:Nat->Prop):Prop:=∃g m v,AT w a ns F g m v
theorem AT.low {w:World} {a:Value} {ns:List Nd} {F:Nat->Prop} {g:Nat} {m:Option Nat} {v:Value} (h:AT w a ns F g m v) (b:Nat) (hb:F b):b<w.heap.size:=by
 rcases (h.own b).1 hb with rfl | e | e
 ·exact h.box.lt
 ·rcases h.ids with ⟨q,_⟩ | ⟨k,q,hk⟩
  ·rw[q] at e;cases e
  ·rw[q] at e;injection e with e;rw[<-e];exact hk.lt
 ·exact (World.ownsRow.lt h.row b e).2
theorem AA.low {w:World} {a:Value} {ns:List Nd} {F:Nat->Prop} (h:AA w a ns F) (b:Nat) (hb:F b):b<w.heap.size:=by
 obtain ⟨g,m,v,h⟩:=h
 exact h.low b hb
theorem AT.keep {w w':World} {a:Value} {ns:List Nd} {F:Nat->Prop} {g:Nat} {m:Option Nat} {v:Value} (h:AT w a ns F g m v) (hk:∀b,F b->w'.heap[b]?=w.heap[b]?):AT w' a ns F g m v:=by
 refine ⟨h.ptr,(hk g ((h.own g).2 (Or.inl rfl))).trans h.box,?_,?_,h.fine,h.max,h.apart,h.own⟩
 ·obtain ⟨h1,h2⟩:=id h.row
  refine ⟨h1,?_⟩
  rcases h2 with ⟨e,q⟩ | ⟨g',cap,cur,e,hb,hc,r⟩
  ·exact Or.inl ⟨e,q⟩
  ·exact Or.inr ⟨g',cap,cur,e,hb,(hk g' ((h.own g').2 (Or.inr (Or.inr (by rw[e];rfl))))).trans hc,r⟩
 ·rcases h.ids with q | ⟨k,q,hid⟩
  ·exact Or.inl q
  ·exact Or.inr ⟨k,q,hid.kept (hk k ((h.own k).2 (Or.inr (Or.inl q))))⟩
theorem AA.keep {w w':World} {a:Value} {ns:List Nd} {F:Nat->Prop} (h:AA w a ns F) (hk:∀b,F b->w'.heap[b]?=w.heap[b]?):AA w' a ns F:=by
 obtain ⟨g,m,v,h⟩:=h
 exact ⟨g,m,v,h.keep hk⟩
theorem AT.next {w w':World} {a:Value} {ns:List Nd} {F:Nat->Prop} {g:Nat} {m:Option Nat} {v:Value} (h:AT w a ns F g m v) (hb:Below w.heap.size w w'):AT w' a ns F g m v:=h.keep (fun b hF=>hb.block b (h.low b hF))
theorem AA.next {w w':World} {a:Value} {ns:List Nd} {F:Nat->Prop} (h:AA w a ns F) (hb:Below w.heap.size w w'):AA w' a ns F:=h.keep (fun b hF=>hb.block b (h.low b hF))
theorem AA.drewN {w:World} {a:Value} {ns:List Nd} {F:Nat->Prop} (h:AA w a ns F) (q:Nat):AA (w.drewN q) a ns F:=h.keep (fun b hF=>rfl)
theorem AA.fine {w:World} {a:Value} {ns:List Nd} {F:Nat->Prop} (h:AA w a ns F):zaA ns:=by
 obtain ⟨g,m,v,h⟩:=h
 exact h.fine
theorem zuL (w:World):Calls Tryz.prog 18 #[] w fun e w'=>∃a F,e=.returned a/\AA w' a [] F/\(∀b,F b->w.heap.size<=b)/\Below w.heap.size w w':=by
 go_enter Tryz.func18,Tryz.ntmps18
 go_wp2_with fail
 go_ret
 have h1:Below w.heap.size w (w.alloc (.cells #[.slice none 0 0,.map none] 69)):=zqb
 refine ⟨_,fun b=>b=w.heap.size,rfl,⟨w.heap.size,none,.slice none 0 0,rfl,?_,zbR.nil _ _,Or.inl ⟨rfl,rfl⟩,?_,by simp,?_,?_⟩,?_,h1⟩
 ·exact At.new w 69 #[.slice none 0 0,.map none]
 ·exact ⟨fun j hj=>absurd hj (jD _),fun i j hi=>absurd hi (jD _)⟩
 ·exact ⟨(by intro e;cases e),(by intro e;cases e),Or.inl rfl⟩
 ·intro b
  constructor
  ·intro h
   exact Or.inl h
  ·rintro (h | h | h)
   ·exact h
   ·cases h
   ·cases h
 ·rintro b h;omega
theorem zuz {w:World} {a:Value} {ns:List Nd} {F:Nat->Prop} (h:AA w a ns F):Calls Tryz.prog 9 #[a] w fun e w'=>e=.returned (.int .i64 ns.length)/\w'=w:=by
 obtain ⟨g,m,v,h⟩:=h
 obtain rfl:=h.ptr
 obtain ⟨A,c,rfl⟩:=h.row.len
 have hmx:=h.max
 have c0:w.cell? ⟨g,0,none⟩=some (.slice A ns.length c):=h.box.cell 0
 go_enter Tryz.func9,Tryz.ntmps9
 go_wp2_with fail
 go_ret
 exact ⟨rfl,rfl⟩
theorem zts (a:Value) (n:Nat) (i:Int) (w:World) (hlen:Calls Tryz.prog 9 #[a] w fun e w'=>e=.returned (.int .i64 n)/\w'=w):Calls Tryz.prog 63 #[a,.int .i64 i] w fun e w'=>e=.returned (.bool (aIn i n))/\w'=w:=by
 by_cases h0:0<=i
 ·have e0:decide (0<=i)=true:=qD h0
  have HE:Hid (aIn i n=decide (i<(n:Int))):=zqh (by unfold aIn;rw[e0,jS])
  go_enter Tryz.func63,Tryz.ntmps63
  go_wp2_with fail
  refine hlen.mono ?_
  rintro e w1 ⟨rfl,rfl⟩
  go_wp2_with fail
  go_ret
  exact ⟨by rw[HE.out];rfl,rfl⟩
 ·have e0:decide (0<=i)=false:=qE h0
  have HE:Hid (aIn i n=false):=zqh (by unfold aIn;rw[e0,yC])
  go_enter Tryz.func63,Tryz.ntmps63
  go_wp2_with fail
  go_ret
  exact ⟨by rw[HE.out];rfl,rfl⟩
theorem zvw {w:World} {a:Value} {ns:List Nd} {F:Nat->Prop} (i:Int) (h:AA w a ns F):Calls Tryz.prog 63 #[a,.int .i64 i] w fun e w'=>e=.returned (.bool (aIn i ns.length))/\w'=w:=zts a ns.length i w (zuz h)
theorem znf {i:Int} {n:Nat}:aIn i n=decide (0<=i/\i<n):=by
 unfold aIn
 by_cases h0:0<=i<;>by_cases h1:i<(n:Int)<;>simp[h0,h1]
theorem aNodeZ {w:World} {a:Value} {ns:List Nd} {F:Nat->Prop} (i:Int) (h:AA w a ns F) (hi:I64 i):Calls Tryz.prog 36 #[a,.int .i64 i] w fun e w'=>∃y:Nd,e=.returned (.tuple #[.agg y.cs.toArray,.bool (decide (0<=i/\i<ns.length))])/\(0<=i/\i<ns.length->y=zaQ ns i.toNat)/\Below w.heap.size w w'/\(¬(0<=i/\i<ns.length)->y=Nd.zero):=by
 obtain ⟨g,m,v,h⟩:=h
 obtain rfl:=h.ptr
 obtain ⟨A,c,rfl⟩:=h.row.len
 have hmx:=h.max
 have HT:=zqh h
 have HBx:=zqh ((qT w.heap.size w).alloc zqn (.cells Nd.zero.cs.toArray 61))
 have HH:Hid (Calls Tryz.prog 63 #[.pointer (some ⟨g,0,none⟩),.int .i64 i] (w.alloc (.cells Nd.zero.cs.toArray 61)) fun e w'=>e=.returned (.bool (aIn i ns.length))/\w'=w.alloc (.cells Nd.zero.cs.toArray 61)):=zqh (zvw i ⟨g,m,_,HT.out.next HBx.out⟩)
 have c0:(w.alloc (.cells Nd.zero.cs.toArray 61)).cell? ⟨g,0,none⟩=some (.slice A ns.length c):=(HT.out.next HBx.out).box.cell 0
 clear h
 by_cases hin:0<=i/\i<ns.length
 ·have HIn:=zqh hin
  obtain ⟨j,rfl⟩:∃j:Nat,i=(j:Int):=⟨i.toNat,by omega⟩
  have hj:j<ns.length:=by omega
  have h1:(0:Int)<=(j:Int):=by omega
  have h2:(j:Int)<(ns.length:Int):=by omega
  have HV:Hid (aIn (j:Int) ns.length=true):=zqh (by rw[znf,qD HIn.out])
  obtain ⟨_,_,e1,_,h3⟩:=HT.out.row.nds (by omega)
  injection e1 with e1 e7 e3
  subst e1 e3
  clear e7
  obtain ⟨b,off,rfl,hb,hr⟩:=h3 (by omega)
  have HR:=zqh (hr j hj)
  obtain ⟨y,hy⟩:∃y,zaQ ns j=y:=⟨_,rfl⟩
  rw[hy] at HR
  have HY:=zqh hy
  have hone:=Nd.one y
  have HA0:Hid ((w.alloc (.cells Nd.zero.cs.toArray 61)).rangeAt b (off+j*8) y.cs):=zqh (fun i u hu=>((zbW HBx.out).1 b _ hb).trans (HR.out i u hu))
  clear h3 hr hy hin hb
  go_enter Tryz.func36,Tryz.ntmps36
  go_wp2_with fail
  refine HH.out.mono ?_
  rintro e w1 ⟨rfl,rfl⟩
  rw[HV.out]
  go_wp2_with (first
   |(with_reducible show wpList _ _ _ (⟨some 17,.load _ _,_,_,_,_⟩::_) _ _
     refine wpList_load_mid rfl 61 _ rfl b (off+j*8) rfl y.cs _ HA0.out Tryz.underlying61 rfl (by rw[Nd.cs_length];kernel_rfl) ?_)
   |(with_reducible show wpList _ _ _ (⟨none,.store _ _ _,_,_,_,_⟩::_) _ _
     refine qN rfl 61 _ _ rfl w.heap.size y.cs.toArray rfl rfl 61 Nd.zero.cs.toArray (At.new _ _ _) (by kernel_rfl) rfl hone ?_
     first | change wpList _ _ _ _ _ (zaD w y) | change Exit.then _ _ _ _ (zaD w y))
   | fail)
  exact yD (zdN Tryz.results36 _ _ w.heap.size 61 y.cs.toArray (0,0) _ rfl (zbq w y) Tryz.underlying61 rfl (by rw[qO,Nd.cs_length];kernel_rfl)) rfl ⟨y,by rw[qD HIn.out];rfl,fun _=>by rw[xO];exact HY.out.symm,zaN w y,fun h=>absurd HIn.out h⟩
 ·have HIn:=zqh hin
  have HV:Hid (aIn i ns.length=false):=zqh (by rw[znf,qE HIn.out])
  clear hin
  go_enter Tryz.func36,Tryz.ntmps36
  go_wp2_with fail
  refine HH.out.mono ?_
  rintro e w1 ⟨rfl,rfl⟩
  rw[HV.out]
  have hone:=Nd.one Nd.zero
  have hb0:(#[Value.int .i64 0,Value.int .u64 0,Value.int .u64 0,Value.int .u64 0,Value.int .u64 0,Value.int .i64 0,Value.int .i64 0,Value.bool false]:Array Value)=Nd.zero.cs.toArray:=rfl
  go_wp2_with (first
   |(with_reducible show wpList _ _ _ (⟨none,.store _ _ _,_,_,_,_⟩::_) _ _
     refine qN rfl 61 _ _ rfl w.heap.size Nd.zero.cs.toArray rfl rfl 61 Nd.zero.cs.toArray (At.new _ _ _) (by kernel_rfl) rfl hone ?_
     first | change wpList _ _ _ _ _ (zaD w Nd.zero) | change Exit.then _ _ _ _ (zaD w Nd.zero))
   | fail)
  exact yD (zdN Tryz.results36 _ _ w.heap.size 61 Nd.zero.cs.toArray (0,0) _ rfl (zbq w Nd.zero) Tryz.underlying61 rfl (by rw[qO,Nd.cs_length];kernel_rfl)) rfl ⟨Nd.zero,by rw[qE HIn.out];rfl,fun h=>absurd h HIn.out,zaN w Nd.zero,fun _=>rfl⟩
theorem zuM {w:World} {a:Value} {ns:List Nd} {F:Nat->Prop} (i:Int) (h:AA w a ns F) (hi:I64 i):Calls Tryz.prog 36 #[a,.int .i64 i] w fun e w'=>∃y:Nd,e=.returned (.tuple #[.agg y.cs.toArray,.bool (decide (0<=i/\i<ns.length))])/\(0<=i/\i<ns.length->y=zaQ ns i.toNat)/\Below w.heap.size w w' :=
 (aNodeZ i h hi).mono (fun _ _ ⟨y,h1,h2,h3,_⟩=>⟨y,h1,h2,h3⟩)
end
end Go.Proofs.YtdmodhnhldbpnaaGreat
