/- Joined: NodeEq, NodeRight, Open, OpenSets, OpenTr, OpenNodes, Own, NodeBelow, ArenaSpec, TurnTwice, NormMath, NormLaws, NormTable. -/
import Derived.Test.YtdmodhnhldbpnaaGreatMac
import Derived.Test.YtdmodhnhldbpnaaGreatMaa
import Derived.StillTailTactics
import Derived.Deep.QuietTactic
import Derived.BigQuiet
import Derived.Test.YtdmodhnhldbpnaaGreatProg
import Derived.ProofKit
import Derived.OpenShut
import Derived.Laws.IdiomArrays
import Derived.Deep.Slices
import Derived.Laws.OwnMore
import Derived.Deep.AppendLies
import Derived.Test.YtdmodhnhldbpnaaGreatAid
/- '==' on two nodes. -/
set_option linter.unusedSimpArgs false
set_option linter.unusedVariables false
set_option linter.unusedSectionVars false
namespace Go.Proofs.YtdmodhnhldbpnaaGreat
section
open Go.RowKit
def Nd.eqb (x y:Nd):Bool:=x.kind==y.kind&&(x.set.eqb y.set&&(x.a==y.a&&(x.b==y.b&&x.neg==y.neg)))
theorem Nd.eqb_iff (x y:Nd):x.eqb y=true↔x=y:=by
 cases x;cases y
 simp[Nd.eqb,St.eqb_iff]
theorem Nd.eqb_self (x:Nd):x.eqb x=true:=(Nd.eqb_iff x x).2 rfl
theorem zmK:(Tryz.prog.fieldsOf 61).toList.map (fun f=>(f.name,f.type,f.offset))=[("Kind",3,0),("Set",46,1),("A",3,5),("B",3,6),("Neg",4,7)]:=by kernel_rfl
theorem zlw:∃f0 f1 f2 f3 f4,(Tryz.prog.fieldsOf 61).toList=[f0,f1,f2,f3,f4]/\(f0.name="Kind"/\f0.type=3/\f0.offset=0)/\(f1.name="Set"/\f1.type=46/\f1.offset=1)/\(f2.name="A"/\f2.type=3/\f2.offset=5)/\(f3.name="B"/\f3.type=3/\f3.offset=6)/\(f4.name="Neg"/\f4.type=4/\f4.offset=7):=by
 have h:=zmK
 generalize (Tryz.prog.fieldsOf 61).toList=l at h ⊢
 have hl:l.length=5:=by have:=congrArg List.length h;simpa using this
 match l,hl with
 | [f0,f1,f2,f3,f4],_ =>
  simp only[jW,kL,List.cons.injEq,Prod.mk.injEq,and_true] at h
  exact ⟨f0,f1,f2,f3,f4,rfl,h⟩
theorem zmL:Tryz.prog.underlying 61=some (.struct (Tryz.prog.fieldsOf 61)):=by kernel_rfl
theorem zoX:Tryz.prog.stoodInHeld 61=false:=by kernel_rfl
theorem zoY (w:World) (x:Nd):(part 3 x.cs.toArray 0).run Tryz.prog w=.ok (.int .i64 x.kind) w:=by
 simp[part,isAgg,yI Tryz.underlying3,Nd.cs]
theorem zoZ (w:World) (x:Nd):(part 46 x.cs.toArray 1).run Tryz.prog w=.ok (.agg #[.int .u64 x.set.w0,.int .u64 x.set.w1,.int .u64 x.set.w2,.int .u64 x.set.w3]) w:=by
 obtain ⟨iR,hR,hRs⟩:∃i,Tryz.prog.info? 46=some i/\i.size=4:=by
  have h:(Tryz.prog.info? 46).map (·.size)=some 4:=by kernel_rfl
  cases hq:Tryz.prog.info? 46 with
  | none=>simp[hq] at h
  | some i=>exact ⟨i,rfl,by simpa [hq] using h⟩
 simp only[part,isAgg,jY,yI Tryz.underlying46,jF,sizeOf,typeInfo,gG,if_true]
 simp[hR,hRs,Nd.cs]
theorem zo0 (w:World) (x:Nd):(part 3 x.cs.toArray 5).run Tryz.prog w=.ok (.int .i64 x.a) w:=by
 simp[part,isAgg,yI Tryz.underlying3,Nd.cs]
theorem zo1 (w:World) (x:Nd):(part 3 x.cs.toArray 6).run Tryz.prog w=.ok (.int .i64 x.b) w:=by
 simp[part,isAgg,yI Tryz.underlying3,Nd.cs]
theorem zo2 (w:World) (x:Nd):(part 4 x.cs.toArray 7).run Tryz.prog w=.ok (.bool x.neg) w:=by
 simp[part,isAgg,yI Tryz.underlying4,Nd.cs]
theorem zuF (d:Nat) (w:World) (x y:Nd):(Op.equalIn (d+1+1+1) 61 (.agg x.cs.toArray) (.agg y.cs.toArray)).run Tryz.prog w=.ok (x.eqb y) w:=by
 rw[run_equalIn_struct w (d+1+1) _ _ _ zmL zoX]
 obtain ⟨f0,f1,f2,f3,f4,hfs,⟨n0,t0,o0⟩,⟨n1,t1,o1⟩,⟨n2,t2,o2⟩,⟨n3,t3,o3⟩,⟨n4,t4,o4⟩⟩:=zlw
 rw[hfs]
 have hi:∀a b:Int,(Op.equalIn (d+1+1) 3 (.int .i64 a) (.int .i64 b)).run Tryz.prog w=.ok (a==b) w:=fun a b=>run_equalIn_int w (d+1) 3 .i64 .i64 a b Tryz.underlying3
 have hb:∀a b:Bool,(Op.equalIn (d+1+1) 4 (.bool a) (.bool b)).run Tryz.prog w=.ok (a==b) w:=fun a b=>run_equalIn_bool w (d+1) 4 a b Tryz.underlying4
 have hq:=zhq (d:=d) Tryz.underlying46 (by kernel_rfl) Tryz.underlying44 (by kernel_rfl) w x.set y.set
 have hn0:f0.name≠"_":=by rw[n0];decide
 have hn1:f1.name≠"_":=by rw[n1];decide
 have hn2:f2.name≠"_":=by rw[n2];decide
 have hn3:f3.name≠"_":=by rw[n3];decide
 have hn4:f4.name≠"_":=by rw[n4];decide
 unfold Op.eqFields
 rw[if_pos hn0,t0,o0]
 simp only[jY,zoY,hi x.kind y.kind,jF]
 cases q0:(x.kind==y.kind) with
 | false=>simp[Nd.eqb,q0]
 | true =>
  simp only[kN,xH,if_false]
  unfold Op.eqFields
  rw[if_pos hn1,t1,o1]
  simp only[jY,zoZ,hq,jF]
  cases q1:(x.set.eqb y.set) with
  | false=>simp[Nd.eqb,q0,q1]
  | true =>
   simp only[kN,xH,if_false]
   unfold Op.eqFields
   rw[if_pos hn2,t2,o2]
   simp only[jY,zo0,hi x.a y.a,jF]
   cases q2:(x.a==y.a) with
   | false=>simp[Nd.eqb,q0,q1,q2]
   | true =>
    simp only[kN,xH,if_false]
    unfold Op.eqFields
    rw[if_pos hn3,t3,o3]
    simp only[jY,zo1,hi x.b y.b,jF]
    cases q3:(x.b==y.b) with
    | false=>simp[Nd.eqb,q0,q1,q2,q3]
    | true =>
     simp only[kN,xH,if_false]
     unfold Op.eqFields
     rw[if_pos hn4,t4,o4]
     simp only[jY,zo2,hb x.neg y.neg,jF]
     cases q4:(x.neg==y.neg) with
     | false=>simp[Nd.eqb,q0,q1,q2,q3,q4]
     | true =>
      simp only[kN,xH,if_false]
      simp[Nd.eqb,Op.eqFields,q0,q1,q2,q3,q4]
theorem zo3 (w:World) (x y:Nd) (v:Bool) (h:x.eqb y=v):(Op.equalIn 10000 61 (.agg x.cs.toArray) (.agg y.cs.toArray)).run Tryz.prog w=.ok v w:=by
 rw[<-h];exact zuF 9997 w x y
end

section
open Go.RowKit
def aIn (a:Int) (n:Int):Bool:=decide (0<=a)&&decide (a<n)
def zbn:St:=⟨0,0,0,0⟩
def Nd.bare (x:Nd):Nd:=⟨x.kind,zbn,0,0,false⟩
def Nd.right (x:Nd) (n:Nat):Bool :=
 if x.kind=0\/x.kind=1 then x.eqb x.bare
 else if x.kind=2 then x.eqb ⟨x.kind,x.set,0,0,false⟩
 else if x.kind=3\/x.kind=4\/x.kind=5 then x.eqb ⟨x.kind,zbn,x.a,x.b,false⟩&&aIn x.a n&&aIn x.b n
 else if x.kind=6\/x.kind=7 then x.eqb ⟨x.kind,zbn,x.a,0,false⟩&&aIn x.a n
 else if x.kind=8 then x.eqb ⟨x.kind,zbn,x.a,0,x.neg⟩&&aIn x.a 4
 else false
theorem zbc {B:Nat} {w w1:World} (h:Below B w w1) (q:Nat):Below B w (w1.drewN q):=⟨h.os,h.tape,h.output,h.size,h.block⟩
end

section
open Go.ChangeShapes Go.WideShapes Go.ChangeAt Go.RowKit
theorem own:ownKnob Tryz.prog.godebug=none:=by kernel_rfl
theorem zmM:laidOutB Tryz.prog=true:=by kernel_rfl
theorem zeY {n:Int} (h:(Lit.int .u64 n).wf=true):∃k:Nat,n=(k:Int)/\U64 k:=by
 obtain ⟨h1,h2⟩:=bounds_u64 h
 refine ⟨n.toNat,by omega,?_⟩
 unfold U64
 omega
section
variable {H:Type} {enc:TypeId×Value->H} {P:Program} {w:World} {base:Nat} {spare:Nat->Bool} {held:Bool}
theorem zlx {r:Reach} {b0:Nat} {T E:TypeId} {v:Value} {d:DataW H} {p:List MemPlace} (hu:P.underlying T=some (.slice E)) (hE:P.underlying E=some (.int .u8)) (hcE:P.cellsOf E=1)
  (hv:Value.okWide P w r b0 T v) (h:DataW.Trod enc P w base spare held T v d p):∃(A:Option Addr) (n c:Nat) (l:List Nat),zdf w A n l/\v=.slice A n c:=by
 obtain ⟨A,n,c,rfl⟩:=okWide_slice hu hv
 obtain ⟨fuel,hf⟩:=h
 rcases open_ints hu hE hcE hf with ⟨hcs,_⟩ | ⟨x,len,cap,zs,hcs,_,hl,hm,hz,_,hcell,hwz⟩
 ·simp[Value.cells] at hcs
  obtain ⟨rfl,rfl,rfl⟩:=hcs
  exact ⟨none,0,0,[],⟨rfl,by omega,fun k hk=>by simp at hk,fun h0=>by omega⟩,rfl⟩
 ·simp[Value.cells] at hcs
  obtain ⟨rfl,rfl,rfl⟩:=hcs
  have hzn:n<=zs.length:=by rw[hz];split<;>omega
  have hb:∀k,k<zs.length->0<=zs.getD k 0/\zs.getD k 0<=255:=by
   intro k hk
   refine bounds_u8 (hwz _ ?_)
   rw[xJ,qI hk]
   exact qG _
  refine ⟨some x,n,c,(zs.take n).map Int.toNat,⟨?_,?_,?_,?_⟩,rfl⟩
  ·simp;omega
  ·unfold maxLen at hm;omega
  ·intro k hk
   simp at hk
   have h1:=hb k (by omega)
   rw[xJ,qI (by omega)] at h1
   simp at h1 ⊢
   omega
  ·intro h0
   have hc0:=hcell 0 (by omega)
   obtain ⟨b,off,spot⟩:=x
   have hspot:spot=none:=by simpa [Addr.add] using World.cell?_spot hc0
   subst hspot
   refine ⟨b,off,rfl,?_,?_⟩
   ·exact block_lt_of_cell (a:=⟨b,off,none⟩) (by simpa [Addr.add] using hc0)
   ·intro k hk
    simp at hk
    have h1:=hb k (by omega)
    have h2:=hcell k (by omega)
    rw[xJ,qI (by omega)] at h1 h2
    have hadd:(⟨b,off,none⟩:Addr).add k=⟨b,off+k,none⟩:=by unfold Addr.add;split<;>simp_all
    rw[hadd] at h2
    simp at h1 h2 ⊢
    rw[h2]
    congr 2
    omega
theorem zhu {t:TypeId} {v:Value} {d:DataW H} {p:List MemPlace} (h:DataW.Trod enc P w base spare held t v d p):∀x∈p,x.block<w.heap.size:=by
 obtain ⟨m,hm⟩:=h;exact DataW.trod_lt m _ _ _ hm
end
end

section
open Go.ChangeShapes Go.WideShapes Go.ChangeAt Go.RowKit
instance:Inhabited St:=⟨⟨0,0,0,0⟩⟩
section
variable {H:Type} {enc:TypeId×Value->H} {P:Program} {w:World} {base:Nat} {spare:Nat->Bool} {held:Bool}
theorem ziG {fuel:Nat} {T E:TypeId} {c0 c1 c2 c3:Value} {x:DataW H×List MemPlace} (hu:P.underlying T=some (.array 4 E)) (hE:P.underlying E=some (.int .u64)) (hcE:P.cellsOf E=1)
  (h:DataW.trod enc P w base spare held fuel T [c0,c1,c2,c3]=some x):∃s:St,s.Ok/\c0=.int .u64 s.w0/\c1=.int .u64 s.w1/\c2=.int .u64 s.w2/\c3=.int .u64 s.w3:=by
 obtain ⟨y0,y1,y2,y3,m,_,hy0,hy1,hy2,hy3⟩:=trod_array4 hu hcE h
 obtain ⟨x0,e0,_,w0⟩:=gP hE hy0
 obtain ⟨x1,e1,_,w1⟩:=gP hE hy1
 obtain ⟨x2,e2,_,w2⟩:=gP hE hy2
 obtain ⟨x3,e3,_,w3⟩:=gP hE hy3
 simp at e0 e1 e2 e3
 subst e0 e1 e2 e3
 obtain ⟨k0,rfl,u0⟩:=zeY w0
 obtain ⟨k1,rfl,u1⟩:=zeY w1
 obtain ⟨k2,rfl,u2⟩:=zeY w2
 obtain ⟨k3,rfl,u3⟩:=zeY w3
 exact ⟨⟨k0,k1,k2,k3⟩,⟨u0,u1,u2,u3⟩,rfl,rfl,rfl,rfl⟩
theorem zhv (b o j:Nat):(⟨b,o,none⟩:Addr).add j=⟨b,o+j,none⟩:=by unfold Addr.add;split<;>simp_all
end
end

section
open Go.ChangeShapes Go.WideShapes Go.ChangeAt Go.RowKit
instance:Inhabited Tr:=⟨.node 0 ⟨0,0,0,0⟩ none 0 0 [] 0 0 false⟩
theorem zhj {w:World} {base b off n:Nat} {cs:List Value} (h:w.cells? base ⟨b,off,none⟩ n=some cs):w.rangeAt b off cs:=by
 unfold World.cells? at h
 split at h
 ·intro j v hv
  have hj:=mapM_some_get h j j
  have hl:j<cs.length:=(List.getElem?_eq_some_iff.1 hv).1
  have hn:cs.length=n:=by simpa using mapM_some_length h
  have:=hj (by rw[qI (by rw[List.length_range];omega),List.getElem_range])
  rw[zhv] at this
  rw[this];exact hv
 ·cases h
theorem zcS {α:Type} (f:Nat->α) (n j:Nat) (h:j<((List.range n).map f).length):((List.range n).map f)[j]'h=f j:=by simp
theorem zb7 {n:Int} (h:(Lit.int .i64 n).wf=true):I64 n:=by
 have:=bounds_i64 h
 unfold I64;omega
section
variable {H:Type} {enc:TypeId×Value->H} {P:Program} {w:World} {base:Nat} {spare:Nat->Bool} {held:Bool}
end
end

section
open Go.ChangeShapes Go.WideShapes Go.ChangeAt Go.RowKit
instance:Inhabited Nd:=⟨Nd.zero⟩
def zbQ (x:Nd):Prop:=I64 x.kind/\x.set.Ok/\I64 x.a/\I64 x.b
section
variable {H:Type} {enc:TypeId×Value->H} {P:Program} {w:World} {base:Nat} {spare:Nat->Bool} {held:Bool}
end
end

section
open Go.RowKit
theorem zjM {w w':World} (hb:Below w.heap.size w w') (row:Option Nat):w.grownBy w' row:=⟨hb.os,hb.tape,hb.output,hb.size,fun i hi _=>hb.block i hi⟩
section
variable {w w' w0:World} {base:Nat} {e:TypeId} {k:IntKind} {v:Value} {l:List Nat}
end
end

section
open Go.RowKit
end

section
open Go.RowKit
structure OffF (F:Nat->Prop) (w w':World):Prop where
 os:w'.os=w.os
 tape:w'.tape=w.tape
 output:w'.output=w.output
 size:w.heap.size<=w'.heap.size
 block:∀b,b<w.heap.size->¬F b->w'.heap[b]?=w.heap[b]?
theorem OffF.below {F:Nat->Prop} {w w':World} {B:Nat} (h:OffF F w w') (hF:∀b,F b->B<=b) (hB:B<=w.heap.size):Below B w w' :=
 ⟨h.os,h.tape,h.output,h.size,fun b hb=>h.block b (by omega) (fun q=>by have:=hF b q;omega)⟩
theorem OffF.of {F:Nat->Prop} {w w':World} (h:Below w.heap.size w w'):OffF F w w':=⟨h.os,h.tape,h.output,h.size,fun b hb _=>h.block b hb⟩
def zaM (ns:List Nd) (x:Nd):Nat:=ns.findIdx (fun y=>y.eqb x)
def zdI (ns:List Nd) (x:Nd):List Nd:=if x.right ns.length then (if zaM ns x<ns.length then ns else ns++[x]) else ns
def zdJ (ns:List Nd) (x:Nd):Int:=if x.right ns.length then (zaM ns x:Int) else 0
def zly (ns:List Nd) (x:Nd):Int:=if x.right ns.length then 0 else 1
def zaA (ns:List Nd):Prop:=(∀j,j<ns.length->(zaQ ns j).right j=true/\zbQ (zaQ ns j))/\∀i j,i<ns.length->j<ns.length->zaQ ns i=zaQ ns j->i=j
theorem zkr {x:Nd} {n:Nat} (h:x.right n=true) (hf:zbQ x):zuv x n:=by
 unfold Nd.right aIn at h
 refine ⟨hf.2.1,fun hk=>?_,fun hk=>?_,fun hk=>?_⟩
 ·rw[if_neg (by omega),if_neg (by omega),if_pos hk] at h
  simp only[qR,qY] at h
  omega
 ·rw[if_neg (by omega),if_neg (by omega),if_neg (by omega),if_pos hk] at h
  simp only[qR,qY] at h
  omega
 ·rw[if_neg (by omega),if_neg (by omega),if_neg (by omega),if_neg (by omega),if_pos hk] at h
  simp only[qR,qY] at h
  omega
theorem zaA.ok {ns:List Nd} (h:zaA ns) (j:Nat) (hj:j<ns.length):zuv (zaQ ns j) j:=zkr (h.1 j hj).1 (h.1 j hj).2
section
variable {AA:World->Value->List Nd->(Nat->Prop)->Prop}
end
end

section
open Go.RowKit
theorem zlz {x:Nd} {n:Nat} (h:x.right n=true):x.kind=0\/x.kind=1\/x.kind=2\/x.kind=3\/x.kind=4\/x.kind=5\/x.kind=6\/x.kind=7\/x.kind=8:=by
 unfold Nd.right at h
 by_cases k0:x.kind=0\/x.kind=1
 ·omega
 rw[if_neg k0] at h
 by_cases k2:x.kind=2
 ·omega
 rw[if_neg k2] at h
 by_cases k3:x.kind=3\/x.kind=4\/x.kind=5
 ·omega
 rw[if_neg k3] at h
 by_cases k6:x.kind=6\/x.kind=7
 ·omega
 rw[if_neg k6] at h
 by_cases k8:x.kind=8
 ·omega
 rw[if_neg k8] at h
 cases h
end

section
open Go.RowKit
def kd (ns:List Nd) (x:Int):Int:=(zaQ ns x.toNat).kind
def ka (ns:List Nd) (x:Int):Int:=(zaQ ns x.toNat).a
def kb (ns:List Nd) (x:Int):Int:=(zaQ ns x.toNat).b
def zac (ns:List Nd) (x:Int):Prop:=0<=x/\x<ns.length
theorem zac.up {ns:List Nd} {x:Int} (h:zac ns x) (more:List Nd):zac (ns++more) x:=by unfold zac at *;rw[qF];omega
theorem zo4 {ns:List Nd} {x:Int} (h:zac ns x) (more:List Nd):zaQ (ns++more) x.toNat=zaQ ns x.toNat:=by
 unfold zac at h
 unfold zaQ
 rw[jP (by omega)]
theorem zbt {ns:List Nd} {x:Int} (h:zac ns x) (more:List Nd):kd (ns++more) x=kd ns x:=by unfold kd;rw[zo4 h]
theorem zlA {ns:List Nd} {x:Int} (h:zac ns x) (more:List Nd):ka (ns++more) x=ka ns x:=by unfold ka;rw[zo4 h]
theorem ztj {ns:List Nd} {x:Int} (h:zac ns x) (more:List Nd):kb (ns++more) x=kb ns x:=by unfold kb;rw[zo4 h]
section
variable {ns:List Nd} (hf:zaA ns)
include hf
theorem zh2 {x:Int} (hx:zac ns x):(zaQ ns x.toNat).right x.toNat=true/\zbQ (zaQ ns x.toNat):=hf.1 x.toNat (by unfold zac at hx;omega)
theorem zjN {x:Int} (hx:zac ns x):zuv (zaQ ns x.toNat) x.toNat:=hf.ok x.toNat (by unfold zac at hx;omega)
theorem zaK {x:Int} (hx:zac ns x) (hk:kd ns x=3\/kd ns x=4\/kd ns x=5):(zac ns (ka ns x)/\ka ns x<x)/\(zac ns (kb ns x)/\kb ns x<x):=by
 have h:=(zjN hf hx).2.1 hk
 unfold zac at *
 unfold ka kb
 omega
theorem zbT {x:Int} (hx:zac ns x) (hk:kd ns x=6\/kd ns x=7):zac ns (ka ns x)/\ka ns x<x:=by
 have h:=(zjN hf hx).2.2.1 hk
 unfold zac at *
 unfold ka
 omega
theorem zh3 {x:Int} (hx:zac ns x):kd ns x=0\/kd ns x=1\/kd ns x=2\/kd ns x=3\/kd ns x=4\/kd ns x=5\/kd ns x=6\/kd ns x=7\/kd ns x=8:=zlz (zh2 hf hx).1
end
def zlB (ns:List Nd) (k:Int):Nat->Int->List Int
 | 0,x=>[x]
 | f+1,x=>if kd ns x=k then zlB ns k f (ka ns x)++zlB ns k f (kb ns x) else [x]
def mem (ns:List Nd) (k x:Int):List Int:=zlB ns k (x.toNat+1) x
section
variable {ns:List Nd} (hf:zaA ns) {k:Int} (hk:k=4\/k=5)
include hf hk
theorem zeZ:∀(f g:Nat) (x:Int),zac ns x->x.toNat<f->x.toNat<g->zlB ns k f x=zlB ns k g x
 | 0,_,_,_,h,_=>absurd h (jD _)
 | _+1,0,_,_,_,h=>absurd h (jD _)
 | f+1,g+1,x,hx,h1,h2=>by
  unfold zlB
  by_cases e:kd ns x=k
  ·rw[if_pos e,if_pos e]
   obtain ⟨⟨a0,a1⟩,b0,b1⟩:=zaK hf hx (by omega)
   unfold zac at a0 b0 hx
   rw[zeZ f g _ a0 (by omega) (by omega),zeZ f g _ b0 (by omega) (by omega)]
  ·rw[if_neg e,if_neg e]
theorem zbV {x:Int} (hx:zac ns x) (e:kd ns x=k):mem ns k x=mem ns k (ka ns x)++mem ns k (kb ns x):=by
 obtain ⟨⟨a0,a1⟩,b0,b1⟩:=zaK hf hx (by omega)
 have h0:=a0
 have h1:=b0
 have h2:=hx
 unfold zac at h0 h1 h2
 show zlB ns k (x.toNat+1) x=_
 rw[show zlB ns k (x.toNat+1) x=if kd ns x=k then zlB ns k x.toNat (ka ns x)++zlB ns k x.toNat (kb ns x) else [x] from rfl,if_pos e]
 unfold mem
 rw[zeZ hf hk _ _ _ a0 (show (ka ns x).toNat<x.toNat by omega) (xW _),zeZ hf hk _ _ _ b0 (show (kb ns x).toNat<x.toNat by omega) (xW _)]
omit hf hk in
theorem zdl {x:Int} (e:kd ns x≠k):mem ns k x=[x]:=by
 show (if kd ns x=k then _ else [x])=_
 rw[if_neg e]
theorem zcs:∀(n:Nat) (x:Int),x.toNat<=n->zac ns x->∀y∈mem ns k x,zac ns y/\y<=x/\kd ns y≠k
 | n,x,hn,hx,y,hy=>by
  by_cases e:kd ns x=k
  ·obtain ⟨⟨a0,a1⟩,b0,b1⟩:=zaK hf hx (by omega)
   rw[zbV hf hk hx e,yO] at hy
   have h0:=a0
   have h1:=b0
   have h2:=hx
   unfold zac at h0 h1 h2
   cases n with
   | zero=>omega
   | succ n =>
    rcases hy with hy | hy
    ·obtain ⟨q1,q2,q3⟩:=zcs n _ (by omega) a0 y hy
     exact ⟨q1,by omega,q3⟩
    ·obtain ⟨q1,q2,q3⟩:=zcs n _ (by omega) b0 y hy
     exact ⟨q1,by omega,q3⟩
  ·rw[zdl e,xG] at hy
   subst hy
   exact ⟨hx,gE _,e⟩
theorem zmN (more:List Nd):∀(n:Nat) (x:Int),x.toNat<=n->zac ns x->mem (ns++more) k x=mem ns k x:=by
 have:∀(f:Nat) (x:Int),zac ns x->zlB (ns++more) k f x=zlB ns k f x:=by
  intro f
  induction f with
  | zero=>intro x _;rfl
  | succ f ih =>
   intro x hx
   unfold zlB
   rw[zbt hx,zlA hx,ztj hx]
   by_cases e:kd ns x=k
   ·obtain ⟨⟨a0,a1⟩,b0,b1⟩:=zaK hf hx (by omega)
    rw[if_pos e,if_pos e,ih _ a0,ih _ b0]
   ·rw[if_neg e,if_neg e]
 intro n x _ hx
 exact this _ x hx
end
def zmO (ns:List Nd) (x:Int):Bool:=decide (kd ns x=0)
def zfw (ns:List Nd) (x:Int):Bool:=decide (kd ns x=6)&&decide (kd ns (ka ns x)=0)
def zjO (ns:List Nd) (k x:Int):Bool:=if k=4 then zfw ns x else zmO ns x
def zev (ns:List Nd) (k x:Int):Bool:=if k=4 then zmO ns x else zfw ns x
inductive ztc
 | top
 | oth (y:Int)
 | some
 | byte (b:Nat)
def hit (ns:List Nd) (k y:Int):ztc->Bool
 | .top=>false
 | .oth z=>decide (y=z)&&(!decide (kd ns y=2)&&!zev ns k y)
 | .some=>decide (kd ns y=2)
 | .byte b=>decide (b<256)&&(decide (kd ns y=2)&&((zaQ ns y.toNat).set.has b != decide (k=5)))
def zvs (ns:List Nd) (k x:Int) (a:ztc):Bool:=zjO ns k x||(mem ns k x).any (fun y=>hit ns k y a)
structure Canon (ns:List Nd):Prop where
 fine:zaA ns
 cat:∀x,zac ns x->kd ns x=3->(kd ns (ka ns x)≠0/\kd ns (ka ns x)≠1/\kd ns (ka ns x)≠3)/\kd ns (kb ns x)≠0/\kd ns (kb ns x)≠1
 join:∀k,k=4\/k=5->∀x,zac ns x->kd ns x=k->kd ns (ka ns x)≠k/\(mem ns k x).Pairwise (·<·)/\(∀y∈mem ns k x,zjO ns k y=false/\zev ns k y=false)/\(∀y∈mem ns k x,∀z∈mem ns k x,kd ns y=2->kd ns z=2->y=z)
 not:∀x,zac ns x->kd ns x=6->kd ns (ka ns x)≠6
 star:∀x,zac ns x->kd ns x=7->kd ns (ka ns x)≠0/\kd ns (ka ns x)≠1/\kd ns (ka ns x)≠7
 bytes:∀x,zac ns x->kd ns x=2->∃b,b<256/\(zaQ ns x.toNat).set.has b=true
section
variable {ns:List Nd} (hc:Canon ns)
include hc
omit hc in
theorem zmP {k x:Int} (h:zjO ns k x=true):kd ns x=0\/kd ns x=6:=by
 unfold zjO at h
 split at h
 ·unfold zfw at h;rw[qR,qY] at h;exact Or.inr h.1
 ·exact Or.inl (jB h)
end
end

section
open Go.RowKit
def zuG (k:Int) (v:ztc->Bool):Bool:=v .top||(decide (k=5)&&(List.range 256).all (fun b=>v (.byte b)))
def zvF (k:Int) (v:ztc->Bool) (a:ztc):Bool:=zuG k v||v a
def zo5 (ns:List Nd) (k:Int) (l:List Int) (r:Int):Prop:=zac ns r/\∀a,zvs ns k r a=zvF k (fun a=>l.any (fun x=>zvs ns k x a)) a
section
variable {ns:List Nd} (hc:Canon ns) {k:Int} (hk:k=4\/k=5)
include hc hk
end
section
variable {ns:List Nd} (hf:zaA ns) (more:List Nd)
include hf
theorem zmQ {x:Int} (hx:zac ns x):zmO (ns++more) x=zmO ns x:=by unfold zmO;rw[zbt hx]
theorem zmR {x:Int} (hx:zac ns x):zfw (ns++more) x=zfw ns x:=by
 unfold zfw
 rw[zbt hx,zlA hx]
 by_cases e:kd ns x=6
 ·rw[zbt (zbT hf hx (Or.inl e)).1]
 ·rw[qE e];rfl
theorem zmS {k x:Int} (hx:zac ns x):zjO (ns++more) k x=zjO ns k x:=by unfold zjO;rw[zmQ hf more hx,zmR hf more hx]
theorem zks {k x:Int} (hx:zac ns x):zev (ns++more) k x=zev ns k x:=by unfold zev;rw[zmQ hf more hx,zmR hf more hx]
end
def zvt (ns:List Nd):Nat->Int->Option (List Int)
 | 0,x=>some [x]
 | f+1,x=>if kd ns x=0 then none else if kd ns x=1 then some [] else if kd ns x=3 then (zvt ns f (kb ns x)).map (ka ns x::·) else some [x]
def zuw (ns:List Nd) (x:Int):Option (List Int):=zvt ns (x.toNat+1) x
def zvG (u v:Option (List Int)):Option (List Int):=match u,v with
 | some l,some m=>some (l++m)
 | _,_=>none
def zvu (ns:List Nd) (x y r:Int):Prop:=zac ns r/\zuw ns r=zvG (zuw ns x) (zuw ns y)
section
variable {ns:List Nd} (hc:Canon ns)
include hc
end
def zqH (ns:List Nd) (x r:Int):Prop:=zac ns r/\(kd ns x=6->r=ka ns x)/\(kd ns x≠6->kd ns r=6/\ka ns r=x)
def ziH (ns:List Nd) (x r:Int):Prop:=zac ns r/\(kd ns x=0\/kd ns x=1->kd ns r=1)/\(kd ns x=7->r=x)/\(kd ns x≠0->kd ns x≠1->kd ns x≠7->kd ns r=7/\ka ns r=x)
section
variable {ns:List Nd} (hc:Canon ns)
include hc
end
end

section
open Go.RowKit
inductive zhf (f:Tbl) (n i:Nat):Nat->Prop
 | here:zhf f n i i
 | step {m j:Nat}:zhf f n i m->m<n->i<=m->m<=j->f m j=true->zhf f n i j
theorem zhf.le {f:Tbl} {n i j:Nat} (h:zhf f n i j):i<=j:=by
 cases h with
 | here=>exact qL _
 | step _ _ h1 h2 _=>omega
theorem zgg {f:Tbl} {n i:Nat}:∀(m j:Nat),zbp f n m i j=true->zhf f n i j
 | 0,j,h=>by
  obtain rfl:=(zaR _ _).1 h
  exact .here
 | m+1,j,h=>by
  have h:(zbp f n m i j||zaF (zbp f n m) f n i j)=true:=h
  rw[yS] at h
  rcases h with h | h
  ·exact zgg m j h
  ·obtain ⟨q,q0,q1,q2,q3,q4⟩:=(zao _ _ _ _ _).1 h
   exact .step (zgg m q q3) q0 q1 q2 q4
theorem ze0 (f:Tbl) (n i:Nat):∀m,zbp f n m i i=true
 | 0=>(zaR _ _).2 rfl
 | m+1=>by show (zbp f n m i i||_)=true;rw[ze0 f n i m,Bool.true_or]
theorem zo6 {f:Tbl} {n i j:Nat} (h:zhf f n i j):∀m,j<=i+m->zbp f n m i j=true:=by
 induction h with
 | here=>exact fun m _=>ze0 f n i m
 | @step q j hw h0 h1 h2 h3 ih =>
  intro m hm
  by_cases e:q=j
  ·subst e;exact ih m hm
  ·cases m with
   | zero=>omega
   | succ m =>
    show (zbp f n m i j||zaF (zbp f n m) f n i j)=true
    rw[yS]
    exact Or.inr ((zao _ _ _ _ _).2 ⟨q,h0,h1,h2,ih m (by omega),h3⟩)
theorem zfC {f:Tbl} {n i j:Nat} (hj:j<n):zbp f n n i j=true↔zhf f n i j:=⟨zgg n j,fun h=>zo6 h n (by omega)⟩
theorem zhf.trans {f:Tbl} {n i j k:Nat} (h:zhf f n i j) (h':zhf f n j k):zhf f n i k:=by
 induction h' with
 | here=>exact h
 | step hw h0 h1 h2 h3 ih =>
  exact .step ih h0 ih.le h2 h3
theorem zrA (f:Tbl) (n:Nat):Eqv n (zbp (zbp f n n) n n) (zbp f n n):=fun i j hi hj=>zbU (by
 rw[zfC hj,zfC hj]
 constructor
 ·intro h
  have:∀{i j:Nat},zhf (zbp f n n) n i j->j<n->zhf f n i j:=by
   intro i j h
   induction h with
   | here=>exact fun _=>.here
   | step hw h0 h1 h2 h3 ih=>exact fun hj=>(ih h0).trans ((zfC hj).1 h3)
  exact this h hj
 ·intro h
  have:∀{i j:Nat},zhf f n i j->j<n->zhf (zbp f n n) n i j:=by
   intro i j h
   induction h with
   | here=>exact fun _=>.here
   | @step q j hw h0 h1 h2 h3 ih=>exact fun hj=>.step (ih h0) h0 h1 h2 ((zfC hj).2 (.step .here h0 zqn h2 h3))
  exact this h hj)
theorem zjP {f:Tbl} {n:Nat} (h:∀i j,i<n->j<n->f i j=true->i=j):Eqv n (zbp f n n) eqF:=fun i j hi hj=>zbU (by
 rw[zfC hj,zaR]
 constructor
 ·intro hw
  have:∀{i j:Nat},zhf f n i j->j<n->i=j:=by
   intro i j hw
   induction hw with
   | here=>exact fun _=>rfl
   | step hw h0 h1 h2 h3 ih=>exact fun hj=>(ih h0).trans (h _ _ h0 hj h3)
  exact this hw hj
 ·rintro rfl;exact .here)
theorem zqI {f:Tbl} {n i j:Nat} (m:Nat) (h:zbp f n m i j=true):i<=j:=(zgg m j h).le
section
variable (l bits:List Nat) {ns:List Nd} (hf:zaA ns)
theorem zo7 {x:Int} (hf:zaA ns) (hx:zac ns x):zai l bits ns x=zdB l bits (zb5 l bits ns ns.length) (zaQ ns x.toNat):=by
 obtain ⟨j,rfl⟩:∃j:Nat,x=(j:Int):=⟨x.toNat,by unfold zac at hx;omega⟩
 exact zoW l bits ns (fun j hj=>hf.ok j hj) j (by unfold zac at hx;omega)
section
variable {l bits}
theorem zlC {x:Int} (hf:zaA ns) (hx:zac ns x) (k:kd ns x=0):zai l bits ns x=noF:=by
 rw[zo7 l bits hf hx];unfold zdB;unfold kd at k
 rw[if_neg (by omega),if_neg (by omega),if_neg (by omega),if_neg (by omega),if_neg (by omega),if_neg (by omega),if_neg (by omega),if_neg (by omega)]
theorem zkt {x:Int} (hf:zaA ns) (hx:zac ns x) (k:kd ns x=1):zai l bits ns x=eqF:=by
 rw[zo7 l bits hf hx];unfold zdB;unfold kd at k;rw[if_pos k]
theorem zb8 {x:Int} (hf:zaA ns) (hx:zac ns x) (k:kd ns x=2):zai l bits ns x=zbL (zaQ ns x.toNat).set l:=by
 rw[zo7 l bits hf hx];unfold zdB;unfold kd at k;rw[if_neg (by omega),if_pos k]
theorem zh4 {x:Int} (hf:zaA ns) (hx:zac ns x) (k:kd ns x=3):zai l bits ns x=zaF (zai l bits ns (ka ns x)) (zai l bits ns (kb ns x)) (l.length+1):=by
 rw[zo7 l bits hf hx];unfold zdB;unfold kd at k;rw[if_neg (by omega),if_neg (by omega),if_pos k];rfl
theorem ztd {x:Int} (hf:zaA ns) (hx:zac ns x) (k:kd ns x=4):zai l bits ns x=fun i j=>zai l bits ns (ka ns x) i j||zai l bits ns (kb ns x) i j:=by
 rw[zo7 l bits hf hx];unfold zdB;unfold kd at k;rw[if_neg (by omega),if_neg (by omega),if_neg (by omega),if_pos k];rfl
theorem zlD {x:Int} (hf:zaA ns) (hx:zac ns x) (k:kd ns x=5):zai l bits ns x=fun i j=>zai l bits ns (ka ns x) i j&&zai l bits ns (kb ns x) i j:=by
 rw[zo7 l bits hf hx];unfold zdB;unfold kd at k;rw[if_neg (by omega),if_neg (by omega),if_neg (by omega),if_neg (by omega),if_pos k];rfl
theorem ziI {x:Int} (hf:zaA ns) (hx:zac ns x) (k:kd ns x=6):zai l bits ns x=zaW (zai l bits ns (ka ns x)):=by
 rw[zo7 l bits hf hx];unfold zdB;unfold kd at k;rw[if_neg (by omega),if_neg (by omega),if_neg (by omega),if_neg (by omega),if_neg (by omega),if_pos k];rfl
theorem zgC {x:Int} (hf:zaA ns) (hx:zac ns x) (k:kd ns x=7):zai l bits ns x=zbp (zai l bits ns (ka ns x)) (l.length+1) (l.length+1):=by
 rw[zo7 l bits hf hx];unfold zdB;unfold kd at k;rw[if_neg (by omega),if_neg (by omega),if_neg (by omega),if_neg (by omega),if_neg (by omega),if_neg (by omega),if_pos k];rfl
theorem zhw {x:Int} (hf:zaA ns) (hx:zac ns x) (k:kd ns x=8):zai l bits ns x=zoT bits (ka ns x).toNat (zaQ ns x.toNat).neg:=by
 rw[zo7 l bits hf hx];unfold zdB;unfold kd at k;rw[if_neg (by omega),if_neg (by omega),if_neg (by omega),if_neg (by omega),if_neg (by omega),if_neg (by omega),if_neg (by omega),if_pos k];rfl
theorem zh5 (hf:zaA ns):∀(n:Nat) (x:Int),x.toNat<=n->zac ns x->∀i j,zai l bits ns x i j=true->i<=j
 | n,x,hn,hx,i,j,h=>by
  have hx':=hx
  unfold zac at hx'
  have two:kd ns x=3\/kd ns x=4\/kd ns x=5->n≠0:=fun k=>by
   obtain ⟨⟨a0,a1⟩,_⟩:=zaK hf hx k
   unfold zac at a0
   omega
  rcases zh3 hf hx with k | k | k | k | k | k | k | k | k
  ·rw[zlC hf hx k] at h;cases h
  ·rw[zkt hf hx k] at h;have:=(zaR _ _).1 h;omega
  ·rw[zb8 hf hx k] at h
   unfold zbL at h
   rw[qR,qY] at h
   omega
  ·rw[zh4 hf hx k] at h
   obtain ⟨q,q0,q1,q2,_⟩:=(zao _ _ _ _ _).1 h
   omega
  ·rw[ztd hf hx k] at h
   obtain ⟨⟨a0,a1⟩,b0,b1⟩:=zaK hf hx (by omega)
   have h0:=a0
   have h1:=b0
   unfold zac at h0 h1
   cases n with
   | zero=>exact absurd rfl (two (by omega))
   | succ n =>
    rw[yS] at h
    rcases h with h | h
    ·exact zh5 hf n _ (by omega) a0 i j h
    ·exact zh5 hf n _ (by omega) b0 i j h
  ·rw[zlD hf hx k] at h
   obtain ⟨⟨a0,a1⟩,b0,b1⟩:=zaK hf hx (by omega)
   have h0:=a0
   unfold zac at h0
   cases n with
   | zero=>exact absurd rfl (two (by omega))
   | succ n =>
    rw[qR] at h
    exact zh5 hf n _ (by omega) a0 i j h.1
  ·rw[ziI hf hx k] at h
   unfold zaW at h
   rw[qR,qY] at h
   exact h.1
  ·rw[zgC hf hx k] at h
   exact zqI _ h
  ·rw[zhw hf hx k] at h
   unfold zoT at h
   rw[qR,qY] at h
   omega
theorem zd3 (hf:zaA ns):∀(n:Nat) (x:Int),x.toNat<=n->zac ns x->∀i j,zai l bits ns x i j=(mem ns 4 x).any (fun y=>zai l bits ns y i j)
 | n,x,hn,hx,i,j=>by
  by_cases e:kd ns x=4
  ·obtain ⟨⟨a0,a1⟩,b0,b1⟩:=zaK hf hx (by omega)
   have h0:=a0
   have h1:=b0
   have h2:=hx
   unfold zac at h0 h1 h2
   cases n with
   | zero=>omega
   | succ n =>
    rw[zbV hf (Or.inl rfl) hx e,yX,<-zd3 hf n _ (by omega) a0,<-zd3 hf n _ (by omega) b0,ztd hf hx e]
  ·rw[zdl e,xQ,List.any_nil,Bool.or_false]
theorem zc6 (hf:zaA ns):∀(n:Nat) (x:Int),x.toNat<=n->zac ns x->∀i j,zai l bits ns x i j=(mem ns 5 x).all (fun y=>zai l bits ns y i j)
 | n,x,hn,hx,i,j=>by
  by_cases e:kd ns x=5
  ·obtain ⟨⟨a0,a1⟩,b0,b1⟩:=zaK hf hx (by omega)
   have h0:=a0
   have h1:=b0
   have h2:=hx
   unfold zac at h0 h1 h2
   cases n with
   | zero=>omega
   | succ n =>
    rw[zbV hf (Or.inr rfl) hx e,xT,<-zc6 hf n _ (by omega) a0,<-zc6 hf n _ (by omega) b0,zlD hf hx e]
  ·rw[zdl e,yR,gH,xR]
theorem zux (hf:zaA ns) {x:Int} (hx:zac ns x) (h:zfw ns x=true) (i j:Nat):zai l bits ns x i j=decide (i<=j):=by
 unfold zfw at h
 rw[qR,qY,qY] at h
 rw[ziI hf hx h.1,zlC hf (zbT hf hx (Or.inl h.1)).1 h.2]
 unfold zaW noF
 rw[Bool.not_false,xR]
end
section
variable {l bits}
variable (hc:Canon ns) (hl:∀b∈l,b<256)
include hc hl
end
section
variable {l bits}
theorem zdm {n:Nat} {f:Tbl} (hs:∀i j,f i j=true->i<=j):Eqv n (zaF eqF f n) f:=fun i j hi hj=>zbU (by
 rw[zao]
 constructor
 ·rintro ⟨m,m0,m1,m2,m3,m4⟩
  obtain rfl:=(zaR _ _).1 m3
  exact m4
 ·intro h
  exact ⟨i,hi,qL _,hs i j h,(zaR _ _).2 rfl,h⟩)
theorem zdK {n:Nat} {f g:Tbl} {i j:Nat} (h:zaF f g n i j=true):i<=j:=by
 obtain ⟨m,_,m1,m2,_⟩:=(zao _ _ _ _ _).1 h
 omega
theorem zlE (hf:zaA ns) {x r:Int} (hx:zac ns x) (h:zqH ns x r) (i j:Nat):zai l bits ns r i j=zaW (zai l bits ns x) i j:=by
 by_cases e:kd ns x=6
 ·rw[h.2.1 e,ziI hf hx e]
  have ha:=(zbT hf hx (Or.inl e)).1
  unfold zaW
  cases hT:zai l bits ns (ka ns x) i j with
  | true=>rw[qD (zh5 hf _ _ zqn ha i j hT)];rfl
  | false=>cases decide (i<=j)<;>rfl
 ·obtain ⟨h1,h2⟩:=h.2.2 e
  rw[ziI hf h.1 h1,h2]
theorem starR_table (hf:zaA ns) {x r:Int} (hx:zac ns x) (h:ziH ns x r):Eqv (l.length+1) (zai l bits ns r) (zbp (zai l bits ns x) (l.length+1) (l.length+1)):=by
 by_cases e:kd ns x=0\/kd ns x=1
 ·rw[zkt hf h.1 (h.2.1 e)]
  refine (zjP (fun i j hi hj hT=>?_)).symm
  rcases e with e | e
  ·rw[zlC hf hx e] at hT;cases hT
  ·rw[zkt hf hx e] at hT;exact (zaR _ _).1 hT
 ·by_cases e7:kd ns x=7
  ·rw[h.2.2.1 e7,zgC hf hx e7]
   exact (zrA _ _).symm
  ·obtain ⟨h1,h2⟩:=h.2.2.2 (by omega) (by omega) e7
   rw[zgC hf h.1 h1,h2];exact Eqv.refl _ _
end
end
theorem ziJ (l bits:List Nat) (ns more:List Nd):∀j,j<=ns.length->zb5 l bits (ns++more) j=zb5 l bits ns j
 | 0,_=>rfl
 | j+1,h=>by
  show zb5 l bits (ns++more) j++[zdB l bits (zb5 l bits (ns++more) j) (zaQ (ns++more) j)]=zb5 l bits ns j++[zdB l bits (zb5 l bits ns j) (zaQ ns j)]
  have e:zaQ (ns++more) j=zaQ ns j:=by unfold zaQ;rw[jP (by omega)]
  rw[ziJ l bits ns more j (by omega),e]
theorem zav (l bits:List Nat) {ns:List Nd} (more:List Nd) {x:Int} (hx:zac ns x):zai l bits (ns++more) x=zai l bits ns x:=by
 unfold zac at hx
 rw[<-zd2 l bits (ns++more) x ns.length hx.1 hx.2 (by rw[qF];omega),ziJ l bits ns more ns.length zqn]
 rfl
end
end Go.Proofs.YtdmodhnhldbpnaaGreat
