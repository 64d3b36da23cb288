/- Joined: RowTr, TreeKit, Place, Ins, Mass. -/
import Derived.Test.YtdmodhnhldbpnaaGreatMaa
import Derived.Test.YtdmodhnhldbpnaaGreatMac
import Derived.Laws.AppendOwn
import Derived.Deep.MidRow
import Derived.Test.YtdmodhnhldbpnaaGreatProg
import Derived.Test.YtdmodhnhldbpnaaGreatMzy
import Derived.Test.YtdmodhnhldbpnaaGreatMad
import Derived.Laws.MakeOwn
import Derived.Laws.OwnMore
import Derived.Deep.AppendLies
import Derived.Deep.AppendSrc
import Derived.WalkKit
import Derived.Deep.WholeRow
import Derived.MapKept
import Derived.Test.YtdmodhnhldbpnaaGreatAid
/- A row of patterns of the call's own: what lies where; what a store there leaves as it was; the steps of a statement whose order is open. No program is walked here. -/
set_option linter.unusedVariables false
set_option linter.unusedSimpArgs false
set_option maxRecDepth 20000
namespace Go.Proofs.YtdmodhnhldbpnaaGreat
section
open Go.RowKit
structure zeE (w:World) (g:Nat) (n:Nat) (f:Nat->Tr):Prop where
 at_:∀j,j<n->w.rangeAt g (j*9) (f j).cs
 there:∀j,j<n->w.there g (j*9) 9
section
variable {w w':World} {g n:Nat} {f:Nat->Tr}
theorem zeE.below {B:Nat} (h:zeE w g n f) (hb:Below B w w') (hg:g<B):zeE w' g n f :=
 ⟨fun j hj i v hv=>((zbW hb).1 g _ hg).trans (h.at_ j hj i v hv),fun j hj i hi=>by
  have:=h.there j hj i hi
  exact ⟨by rw[(zbW hb).1 g _ hg];exact this.1,by rw[(zbW hb).2 g _ hg];exact this.2⟩⟩
theorem zeE.put (h:zeE w g n f) {i:Nat} (hi:i<n) (t:Tr):zeE (w.setCells g (i*9) t.cs) g n (fun j=>if j=i then t else f j) :=
 ⟨fun j hj=>by
  by_cases e:j=i
  ·subst e
   rw[if_pos rfl]
   exact World.rangeAt_setCells_same _ _ _ _ (h.there j hj)
  ·rw[if_neg e]
   exact World.rangeAt_setCells_apart (h.at_ j hj) _ _ _ (by right;rw[Tr.cs_length,Tr.cs_length];omega),
  fun j hj=>World.there_setCells (h.there j hj) _ _ _⟩
theorem zeE.lt (h:zeE w g n f) (hn:0<n):g<w.heap.size:=block_lt_of_cell (h.at_ 0 hn 0 _ rfl)
end
theorem zfd (b:Nat):∀(vs:List Value) (o:Nat) (w:World),(w.setCells b o vs).heap.size=w.heap.size
 | [],_,_=>rfl
 | v::r,o,w=>(zfd b r (o+1) _).trans (by simp[World.setCell])
theorem zer (b k:Nat) (hk:k≠b):∀(vs:List Value) (o:Nat) (w:World),(w.setCells b o vs).heap[k]?=w.heap[k]?
 | [],_,_=>rfl
 | v::r,o,w=>(zer b k hk r (o+1) _).trans (jL w ⟨b,o,none⟩ v k hk)
theorem zfe (b:Nat):∀(vs:List Value) (o:Nat) (w:World),(w.setCells b o vs).os=w.os/\(w.setCells b o vs).tape=w.tape/\(w.setCells b o vs).output=w.output
 | [],_,_=>⟨rfl,rfl,rfl⟩
 | v::r,o,w=>zfe b r (o+1) _
def zfN (g:Nat) (w w':World):Prop:=w'.os=w.os/\w'.tape=w.tape/\w'.output=w.output/\w'.heap.size=w.heap.size/\∀k,k≠g->w'.heap[k]?=w.heap[k]?
theorem zfN.refl (g:Nat) (w:World):zfN g w w:=⟨rfl,rfl,rfl,rfl,fun _ _=>rfl⟩
theorem zfN.cells {g:Nat} {w w':World} (h:zfN g w w') (o:Nat) (vs:List Value):zfN g w (w'.setCells g o vs):=by
 obtain ⟨a,b,c⟩:=zfe g vs o w'
 exact ⟨a.trans h.1,b.trans h.2.1,c.trans h.2.2.1,(zfd g vs o w').trans h.2.2.2.1,fun k hk=>(zer g k hk vs o w').trans (h.2.2.2.2 k hk)⟩
theorem zfN.below {g B:Nat} {w w':World} (h:zfN g w w') (hB:B<=g):Below B w w':=⟨h.1,h.2.1,h.2.2.1,by rw[h.2.2.2.1];exact qL _,fun k hk=>h.2.2.2.2 k (by omega)⟩
def Tr.From (base:Nat):Nat->Tr->Prop
 | 0,_=>True
 | k+1,t=>(0<t.n->∀b off,t.addr=some ⟨b,off,none⟩->base<=b)/\∀p∈t.parts,Tr.From base k p
theorem Tr.From.lower {base base':Nat} (hb:base'<=base):∀(k:Nat) (t:Tr),Tr.From base k t->Tr.From base' k t
 | 0,_,_=>trivial
 | k+1,t,h=>⟨fun h0 b off e=>qH hb (h.1 h0 b off e),fun p hp=>Tr.From.lower hb k p (h.2 p hp)⟩
theorem Tr.In.kept {base:Nat} {w w':World} (hs:w.heap.size<=w'.heap.size) (hk:∀b,base<=b->b<w.heap.size->w'.heap[b]?=w.heap[b]?):∀(k:Nat) (t:Tr),Tr.From base k t->Tr.In w k t->Tr.In w' k t
 | 0,_,_,h=>h.elim
 | k+1,t,hf,h=>by
  obtain ⟨h0,hn,hc,hp⟩:=h
  refine ⟨h0,hn,fun h0=>?_,fun j hj=>Tr.In.kept hs hk k _ (hf.2 _ (qG hj)) (hp j hj)⟩
  obtain ⟨b,off,e,hlt,hr⟩:=hc h0
  have hb:=hf.1 h0 b off e
  exact ⟨b,off,e,qM hlt hs,fun j hj i v hv=>by
   have:=hr j hj i v hv
   unfold World.cell? at this ⊢
   rw[hk b hb hlt];exact this⟩
theorem Tr.In.only {g base k:Nat} {w w':World} {t:Tr} (h:Tr.In w k t) (hf:Tr.From base k t) (ho:zfN g w w') (hg:g<base):Tr.In w' k t :=
 Tr.In.kept (by rw[ho.2.2.2.1];exact qL _) (fun b hb _=>ho.2.2.2.2 b (by omega)) k t hf h
section
variable {P:Program} {ops:Array Oper} {o:Oper} {a:Act} {w:World} {K:Act->World->Prop} {Q:Exit->Act->World->Prop} {E:Prop}
end
end

section
open Go.RowKit
theorem zsp:(Tryz.prog.info? 49).map (fun i=>(i.zero,i.size,i.bytes))=some (some (.agg Tr.blank.cs.toArray),9,88):=by kernel_rfl
theorem zsq (n:Nat) (hn:n<=1000000) (w:World):(Instr.makeSlice 47 (.int .i64 (n:Int)) (.int .i64 (n:Int))).run Tryz.prog w=.ok (.slice (some ⟨w.heap.size,0,none⟩) n n) (w.alloc (.cells (madeCells Tr.blank.cs.toArray (n*9)) 49)):=by
 obtain ⟨i,hi,h0,h1,h2⟩:=yZ zsp
 have h:=run_make (P:=Tryz.prog) w 47 49 i _ Tryz.underlying47 hi h0 .i64 .i64 (n:Int) (n:Int) (by omega) (gE _) (by rw[h2];omega) (by omega)
 rw[h1] at h
 simpa [Value.cells] using h
theorem zpK (w:World) (n:Nat):zeE (w.alloc (.cells (madeCells Tr.blank.cs.toArray (n*9)) 49)) w.heap.size n (fun _=>Tr.blank):=by
 have hA:=At.new w 49 (madeCells Tr.blank.cs.toArray (n*9))
 have hget:∀j i,j<n->i<9->(madeCells Tr.blank.cs.toArray (n*9))[j*9+i]?=Tr.blank.cs[i]?:=by
  intro j i hj hi
  unfold madeCells
  rw[Array.getElem?_map,Array.getElem?_range,if_pos (by omega)]
  have h9:Tr.blank.cs.toArray.size=9:=rfl
  rw[Option.map_some,h9,show (j*9+i) % 9=i by omega,qI (by rw[Tr.cs_length];exact hi)]
  congr 1
  rw[getElem!_pos Tr.blank.cs.toArray i (by rw[h9];exact hi)]
  simp
 refine ⟨fun j hj i v hv=>?_,fun j hj i hi=>⟨?_,hA.free _⟩⟩
 ·have hi:i<9:=by have:=(List.getElem?_eq_some_iff.1 hv).1;rwa [Tr.cs_length] at this
  rw[hA.cell,hget j i hj hi];exact hv
 ·rw[hA.cell,hget j i hj hi,qI (by rw[Tr.cs_length];exact hi)];rfl
def znE (S:Nat->Tr->Tr) (w':World) (B k n:Nat) (A:Option Addr) (parts:List Tr) (ps:Nat->Tr):Prop :=
 0<n->∃g,A=some ⟨g,0,none⟩/\B<=g/\g<w'.heap.size/\zeE w' g n ps/\∀(p:Nat) (h:p<parts.length),Tr.In w' k (ps p)/\Tr.From (g+1) k (ps p)/\(ps p).strip k=S k parts[p]
def zu5 (w:World) (g j:Nat) (t:Tr):World:=w.setCells g (j*9) t.cs.toArray.toList
theorem zpL {w:World} {g n j:Nat} {f:Nat->Tr} (h:zeE w g n f) (hj:j<n) (t:Tr):zeE (zu5 w g j t) g n (fun p=>if p=j then t else f p):=h.put hj t
theorem znF (w:World) (g j:Nat) (t:Tr):zfN g w (zu5 w g j t):=(zfN.refl g w).cells _ _
theorem znE.only {S:Nat->Tr->Tr} {w w':World} {B k n g0:Nat} {A:Option Addr} {parts:List Tr} {ps:Nat->Tr} (h:znE S w B k n A parts ps) (ho:zfN g0 w w') (hg:g0<B):znE S w' B k n A parts ps:=fun h0=>by
 obtain ⟨g,e,hb,hlt,hr,hp⟩:=h h0
 have hne:g≠g0:=by omega
 refine ⟨g,e,hb,by rw[ho.2.2.2.1];exact hlt,⟨fun j hj i v hv=>?_,fun j hj i hi=>?_⟩,fun p hpp=>⟨(hp p hpp).1.only (hp p hpp).2.1 ho (by omega),(hp p hpp).2⟩⟩
 ·have:=hr.at_ j hj i v hv
  unfold World.cell? at this ⊢
  rw[ho.2.2.2.2 g hne];exact this
 ·have:=hr.there j hj i hi
  unfold World.cell? World.frozen? at this ⊢
  rw[ho.2.2.2.2 g hne];exact this
theorem zfN.cell {g:Nat} {w w':World} (h:zfN g w w') (o:Nat) (v:Value):zfN g w (w'.setCell ⟨g,o,none⟩ v):=h.cells o [v]
theorem zsr {S:Nat->Tr->Tr} {w':World} {B k n c:Nat} {A:Option Addr} {parts:List Tr} {ps:Nat->Tr} {kd lo hi:Int} {set:St} {neg:Bool} (hset:set.Ok) (hkd:I64 kd) (hlo:I64 lo) (hhi:I64 hi)
  (hn:n=parts.length) (hn2:n<=2000) (h:znE S w' B k n A parts ps) :
  Tr.In w' (k+1) (.node kd set A n c ((List.range n).map ps) lo hi neg)/\Tr.From B (k+1) (.node kd set A n c ((List.range n).map ps) lo hi neg) /\
   (Tr.node kd set A n c ((List.range n).map ps) lo hi neg).strip (k+1)=.node kd set none n 0 (parts.map (S k)) lo hi neg:=by
 refine ⟨⟨⟨hset,hkd,hlo,hhi⟩,⟨by show n=((List.range n).map ps).length;simp,by show n<=_;omega⟩,fun h0=>?_,fun j hj=>?_⟩,⟨fun h0 b off e=>?_,fun p hp=>?_⟩,?_⟩
 ·obtain ⟨g,e,hb,hlt,hr,hp⟩:=h h0
  refine ⟨g,0,e,hlt,fun j hj=>?_⟩
  have hj':j<n:=by have:j<((List.range n).map ps).length:=hj;simpa using this
  have e1:=zcS ps n j hj
  show w'.rangeAt g (0+j*9) (((List.range n).map ps)[j]'hj).cs
  rw[e1,yH]
  exact hr.at_ j hj'
 ·have hj':j<n:=by have:j<((List.range n).map ps).length:=hj;simpa using this
  obtain ⟨g,e,hb,hlt,hr,hp⟩:=h (by omega)
  have e1:=zcS ps n j hj
  show Tr.In w' k (((List.range n).map ps)[j]'hj)
  rw[e1]
  exact (hp j (by omega)).1
 ·obtain ⟨g,e',hb,_⟩:=h h0
  have e2:A=some ⟨b,off,none⟩:=e
  rw[e2] at e'
  injection e' with e'
  injection e' with e1
  omega
 ·have hp':p∈(List.range n).map ps:=hp
  rw[yN] at hp'
  obtain ⟨j,hj,rfl⟩:=hp'
  have hj':=List.mem_range.1 hj
  obtain ⟨g,e,hb,hlt,hr,hq⟩:=h (by omega)
  exact (hq j (by omega)).2.1.lower (by omega)
 ·show Tr.node kd set none ((List.range n).map ps).length 0 (((List.range n).map ps).map (Tr.strip k)) lo hi neg=_
  rw[qS,List.length_range]
  congr 1
  apply List.ext_getElem
  ·simp;omega
  ·intro j h1 h2
   have hj:j<n:=by simpa using h1
   obtain ⟨g,e,hb,hlt,hr,hq⟩:=h (by omega)
   simp only[kV,List.getElem_range]
   exact (hq j (by omega)).2.2
theorem zfN.row (g:Nat) (w:World) (cs:Array Value):zfN g w (w.setRow g cs):=⟨rfl,rfl,rfl,setRow_size w g cs,fun k hk=>setRow_other w g k cs hk⟩
def Tr.Off (g:Nat):Nat->Tr->Prop
 | 0,_=>True
 | k+1,t=>(0<t.n->∀b off,t.addr=some ⟨b,off,none⟩->b≠g)/\∀p∈t.parts,Tr.Off g k p
theorem Tr.In.grown {w w':World} {row:Option Nat} (hg:w.grownBy w' row):∀(k:Nat) (t:Tr),(∀g,row=some g->Tr.Off g k t)->Tr.In w k t->Tr.In w' k t
 | 0,_,_,h=>h.elim
 | k+1,t,hf,h=>by
  obtain ⟨h0,hn,hc,hp⟩:=h
  refine ⟨h0,hn,fun h0=>?_,fun j hj=>Tr.In.grown hg k _ (fun g e=>(hf g e).2 _ (qG hj)) (hp j hj)⟩
  obtain ⟨b,off,e,hlt,hr⟩:=hc h0
  have hb:some b≠row:=fun q=>(hf b q.symm).1 h0 b off e rfl
  exact ⟨b,off,e,qM hlt hg.size,fun j hj i v hv=>by
   have:=hr j hj i v hv
   unfold World.cell? at this ⊢
   rw[hg.block b hlt hb];exact this⟩
section
variable {w w':World} {base k:Nat} {v:Value} {L:List Tr}
end
theorem zi6 (p:Tr) (w:World):(Instr.buildSlice 47 1 #[(0,.agg p.cs.toArray)]).run Tryz.prog w=.ok (.slice (some ⟨w.heap.size,0,none⟩) 1 1) (w.alloc (.cells p.cs.toArray 49)):=by kernel_rfl
section
variable {ops:Array Oper} {rest:List Oper} {o:Oper} {a:Act} {w:World} {Q:Exit->Act->World->Prop}
theorem zgR (hg:o.guard=none) (x:Operand) (p:Tr) (ho:o.op=.buildSlice 47 1 #[(0,x)]) (hx:a.eval x=.agg p.cs.toArray)
  (h:wpList Tryz.prog ops Q rest (a.put o.dst (.slice (some ⟨w.heap.size,0,none⟩) 1 1)) (w.alloc (.cells p.cs.toArray 49))):wpList Tryz.prog ops Q (o::rest) a w :=
 wpList_plain hg fun K hK=>by
  have hr:(execOp a.eval o).run Tryz.prog w=.ok (.value (.slice (some ⟨w.heap.size,0,none⟩) 1 1)) (w.alloc (.cells p.cs.toArray 49)):=by
   unfold execOp
   simp only[ho,List.map_toArray,jW,kL,hx,jY,zi6,jF,gG]
  unfold Oper.wp
  rw[hr]
  exact hK _ _ h
end
end

section
open Go.RowKit
def zcu (w:World) (a:Addr):Prop:=(w.shape? a.block).isSome=true/\w.frozen? a=false
theorem zi7 (w:World) (a b:Addr) (ha:zcu w a) (hb:zcu w b):∃(r:Bool) (n:Nat),(sameAddr a b).run Tryz.prog w=.ok r (w.drewN n):=by
 obtain ⟨sa,fa⟩:=ha
 obtain ⟨sb,fb⟩:=hb
 by_cases hab:a.block=b.block
 ·exact ⟨a==b,0,by rw[show w.drewN 0=w from rfl];simp[sameAddr,hab]⟩
 ·have hm:∃m:Bool,(mayBeOne a b).run Tryz.prog w=.ok m w:=by
   obtain ⟨xa,hxa⟩:=Option.isSome_iff_exists.1 sa
   obtain ⟨xb,hxb⟩:=Option.isSome_iff_exists.1 sb
   obtain ⟨ta,na⟩:=xa
   obtain ⟨tb,nb⟩:=xb
   simp[mayBeOne,stringish,frozen,shape,fa,fb,hxa,hxb,Sem.run]
  obtain ⟨m,hm⟩:=hm
  have hv:∀c:Addr,(w.shape? c.block).isSome=true->(noView c).run Tryz.prog w=.ok () w:=fun c hc=>by
   simp[noView,viewAt,shape,hc,Sem.run]
  have hfa:(frozen a).run Tryz.prog w=.ok false w:=by simp[frozen,fa,Sem.run]
  have hfb:(frozen b).run Tryz.prog w=.ok false w:=by simp[frozen,fb,Sem.run]
  have e:(sameAddr a b).run Tryz.prog w=(do if m then return (←choose (.extern "sameAddr.stringBytes" 2))==1 else pure false:Sem Bool).run Tryz.prog w:=by
   unfold sameAddr
   rw[if_neg (by simpa using hab)]
   simp only[jY,hfa,hfb,hv a sa,hv b sb,hm]
   cases m<;>simp[Result.andThen,hfa,hfb,hv a sa,hv b sb,hm]
  rw[e]
  cases m with
  | false=>exact ⟨false,0,rfl⟩
  | true =>
   have q:=run_choose_drew Tryz.prog w (.extern "sameAddr.stringBytes" 2)
   rw[if_pos rfl,jY,q]
   split
   ·exact ⟨_,0,rfl⟩
   ·exact ⟨_,1,rfl⟩
def zbx (a:Addr) (n:Int):Value:=.agg #[.pointer (some a),.int .i64 n]
theorem znG:(Tryz.prog.fieldsOf 190).toList.map (fun f=>(f.name,f.type,f.offset))=[("first",188,0),("n",3,1)]:=by kernel_rfl
theorem zhH:∃f0 f1,(Tryz.prog.fieldsOf 190).toList=[f0,f1]/\(f0.name="first"/\f0.type=188/\f0.offset=0)/\(f1.name="n"/\f1.type=3/\f1.offset=1):=by
 have h:=znG
 generalize (Tryz.prog.fieldsOf 190).toList=l at h ⊢
 have hl:l.length=2:=by have:=congrArg List.length h;simpa using this
 match l,hl with
 | [f0,f1],_ =>
  simp only[jW,kL,List.cons.injEq,Prod.mk.injEq,and_true] at h
  exact ⟨f0,f1,rfl,h.1,h.2⟩
theorem zff:Tryz.prog.underlying 190=some (.struct (Tryz.prog.fieldsOf 190)):=by kernel_rfl
theorem zpM:Tryz.prog.stoodInHeld 190=false:=by kernel_rfl
theorem zkU (w:World) (a:Addr) (n:Int):(part 188 #[.pointer (some a),.int .i64 n] 0).run Tryz.prog w=.ok (.pointer (some a)) w:=by
 simp[part,isAgg,yI Tryz.underlying188]
theorem zkV (w:World) (a:Addr) (n:Int):(part 3 #[.pointer (some a),.int .i64 n] 1).run Tryz.prog w=.ok (.int .i64 n) w:=by
 simp[part,isAgg,yI Tryz.underlying3]
theorem zss (w:World):(Go.sizeOf 49).run Tryz.prog w=.ok 9 w:=by
 have h:(Tryz.prog.info? 49).map (·.size)=some 9:=by kernel_rfl
 cases hi:Tryz.prog.info? 49 with
 | none=>rw[hi] at h;cases h
 | some i=>rw[hi] at h;simp at h;simp[Go.sizeOf,typeInfo,hi,h]
theorem znH (d:Nat) (w:World) (a b:Addr) (ha:zcu w a) (hb:zcu w b):∃(r:Bool) (n:Nat),(Op.equalIn (d+1) 188 (.pointer (some a)) (.pointer (some b))).run Tryz.prog w=.ok r (w.drewN n):=by
 obtain ⟨r,n,h⟩:=zi7 w a b ha hb
 refine ⟨r,n,?_⟩
 rw[<-h]
 have hu:=yI (w:=w) Tryz.underlying188
 simp only[Op.equalIn,jY,hu,jF,zss]
 simp
theorem zpN (d:Nat) (w:World) (a b:Addr) (m n:Int) (ha:zcu w a) (hb:zcu w b):∃(r:Bool) (q:Nat),(Op.equalIn (d+1+1) 190 (zbx a m) (zbx b n)).run Tryz.prog w=.ok r (w.drewN q):=by
 obtain ⟨r,q,h⟩:=znH d w a b ha hb
 unfold zbx
 rw[run_equalIn_struct w (d+1) _ _ _ zff zpM]
 obtain ⟨f0,f1,hfs,⟨n0,t0,o0⟩,⟨n1,t1,o1⟩⟩:=zhH
 rw[hfs]
 have he1:(Op.equalIn (d+1) 3 (.int .i64 m) (.int .i64 n)).run Tryz.prog (w.drewN q)=.ok (m==n) (w.drewN q):=by
  rw[run_equalIn_int (w.drewN q) d 3 .i64 .i64 m n Tryz.underlying3]
 have hn0:f0.name≠"_":=by rw[n0];decide
 have hn1:f1.name≠"_":=by rw[n1];decide
 unfold Op.eqFields
 rw[if_pos hn0,t0,o0]
 simp only[jY,zkU,h,jF]
 cases r with
 | false=>exact ⟨false,q,rfl⟩
 | true =>
  simp only[kN,xH,if_false]
  unfold Op.eqFields
  rw[if_pos hn1,t1,o1]
  simp only[jY,zkV,he1,jF]
  cases m==n with
  | false=>exact ⟨false,q,rfl⟩
  | true=>exact ⟨true,q,rfl⟩
theorem zst (w:World) (a b:Addr) (m n:Int) (ha:zcu w a) (hb:zcu w b):∃(r:Bool) (q:Nat),(Op.equal 190 (zbx a m) (zbx b n)).run Tryz.prog w=.ok r (w.drewN q):=zpN 9998 w a b m n ha hb
theorem zcu.drew {w:World} {a:Addr} (h:zcu w a) (q:Nat):zcu (w.drewN q) a:=h
def zgS:Value:=.agg #[]
def MapAt (w:World) (g:Nat):Prop:=∃es clock,w.heap[g]?=some (.map es clock)/\∀e∈es.toList,(∃a n,e.key=zbx a n/\zcu w a/\a.block<g)/\e.val=zgS
theorem zkW (a:Addr) (n:Int):∀(es:List MapEntry) (i:Nat) (w:World),zcu w a->(∀e∈es,(∃a n,e.key=zbx a n/\zcu w a)/\e.val=zgS) ->
  ∃(r:Option (Nat×Value)) (q:Nat),(Instr.findAsking 190 (zbx a n) es i).run Tryz.prog w=.ok r (w.drewN q)/\∀x,r=some x->x.2=zgS
 | [],i,w,_,_=>⟨none,0,rfl,fun x h=>by cases h⟩
 | e::es,i,w,ha,hk=>by
  obtain ⟨⟨b,m,hkey,hb⟩,hval⟩:=hk e (by simp)
  obtain ⟨r,q,h⟩:=zst w a b n m ha hb
  cases r with
  | true=>exact ⟨some (i,e.val),q,by unfold Instr.findAsking;rw[hkey];simp only[jY,h,jF];rfl,fun x hx=>by cases hx;exact hval⟩
  | false =>
   obtain ⟨r2,q2,h2,h3⟩:=zkW a n es (i+1) (w.drewN q) (ha.drew q) (fun e he=>by
    obtain ⟨⟨c,k,h1,h2⟩,h3⟩:=hk e (by simp[he])
    exact ⟨⟨c,k,h1,h2.drew q⟩,h3⟩)
   refine ⟨r2,q+q2,?_,h3⟩
   unfold Instr.findAsking
   rw[hkey]
   simp only[jY,h,jF]
   rw[if_neg (by decide),h2]
   simp[World.drewN,Nat.add_assoc]
theorem zgT (a:Addr) (n:Int) (es:List MapEntry) (w:World) (ha:zcu w a) (hk:∀e∈es,(∃a n,e.key=zbx a n/\zcu w a)/\e.val=zgS) :
  ∃(r:Option (Nat×Value)) (q:Nat),(Instr.findKey 190 (zbx a n) es).run Tryz.prog w=.ok r (w.drewN q)/\∀x,r=some x->x.2=zgS:=by
 cases es with
 | nil=>exact ⟨none,0,by simp only[Instr.findKey,jY,yI zff,jF,Instr.findNow];rfl,fun x h=>by cases h⟩
 | cons e es =>
  obtain ⟨r,q,h1,h2⟩:=zkW a n (e::es) 0 w ha hk
  exact ⟨r,q,by simp only[Instr.findKey,jY,yI zff,jF,Instr.findNow,Instr.sameNow];exact h1,h2⟩
theorem zgU (em:Bool) (d:Nat) (a:Addr) (n:Int) (w:World):(Instr.checkKey em (d+1+1) 190 (zbx a n)).run Tryz.prog w=.ok () w:=by
 obtain ⟨f0,f1,hfs,⟨n0,t0,o0⟩,⟨n1,t1,o1⟩⟩:=zhH
 have hn0:f0.name≠"_":=by rw[n0];decide
 have hn1:f1.name≠"_":=by rw[n1];decide
 have hc0:(Instr.checkKey em (d+1) 188 (.pointer (some a))).run Tryz.prog w=.ok () w:=by
  unfold Instr.checkKey
  simp only[jY,yI Tryz.underlying188,jF]
  rfl
 have hc1:(Instr.checkKey em (d+1) 3 (.int .i64 n)).run Tryz.prog w=.ok () w:=by
  unfold Instr.checkKey
  simp only[jY,yI Tryz.underlying3,jF]
  rfl
 unfold Instr.checkKey zbx
 simp only[jY,yI zff,jF]
 rw[<-Array.forIn_toList,hfs]
 simp only[List.forIn_cons,if_pos hn0,if_pos hn1,t0,t1,o0,o1,jY,zkU,zkV,hc0,hc1,jF,gG,List.forIn_nil]
theorem zq3 {w:World} {r:Nat} {es:Array MapEntry} {clock:Nat} (hb:w.heap[r]?=some (.map es clock)):(getObj r).run Tryz.prog w=.ok (.map es clock) w:=by
 simp[getObj,Sem.run,hb]
theorem zq4 {w:World} {r:Nat} {es:Array MapEntry} {clock:Nat} (o:Obj) (hb:w.heap[r]?=some (.map es clock)):(setObj r o).run Tryz.prog w=.ok () {w with heap:=w.heap.setIfInBounds r o}:=by
 simp[setObj,Sem.run,hb]
theorem zcu.block {w w':World} {a:Addr} (h:zcu w a) (e:w'.heap[a.block]?=w.heap[a.block]?):zcu w' a:=by
 unfold zcu World.shape? World.frozen? at *
 rw[e];exact h
theorem zl2 (w:World) (g:Nat) (a:Addr) (n:Int) (h:MapAt w g) (ha:zcu w a) :
  ∃(b:Bool) (q:Nat),(Instr.lookup 187 (.map (some g)) (zbx a n) true).run Tryz.prog w=.ok (.tuple #[zgS,.bool b]) (w.drewN q):=by
 obtain ⟨es,clock,hb,hk⟩:=h
 obtain ⟨r,q,h1,h2⟩:=zgT a n es.toList w ha (fun e he=>⟨by obtain ⟨⟨b,m,x,y,_⟩,_⟩:=hk e he;exact ⟨b,m,x,y⟩,(hk e he).2⟩)
 have hz:(zeroValue 111).run Tryz.prog (w.drewN q)=.ok zgS (w.drewN q):=(zero_of_info (P:=Tryz.prog) (n:=0) (by kernel_rfl)).1 _
 have hc:(Instr.checkKey es.isEmpty 10000 190 (zbx a n)).run Tryz.prog w=.ok () w:=zgU es.isEmpty 9998 a n w
 unfold Instr.lookup
 simp only[jY,yI Tryz.underlying187,jF,zq3 hb,gG,hc,h1]
 cases r with
 | none=>exact ⟨false,q,by simp only[jY,hz,jF,gG];rfl⟩
 | some x=>exact ⟨true,q,by obtain ⟨i,v⟩:=x;have:=h2 _ rfl;subst this;simp only[gG,jF];rfl⟩
theorem zl3 (w:World) (g:Nat) (a:Addr) (n:Int) (h:MapAt w g) (ha:zcu w a) (hag:a.block<g) :
  ∃w',(Instr.mapUpdate 187 (.map (some g)) (zbx a n) zgS).run Tryz.prog w=.ok () w'/\MapAt w' g/\w.grownBy w' (some g):=by
 obtain ⟨es,clock,hb,hk⟩:=h
 obtain ⟨r,q,h1,h2⟩:=zgT a n es.toList w ha (fun e he=>⟨by obtain ⟨⟨b,m,x,y,_⟩,_⟩:=hk e he;exact ⟨b,m,x,y⟩,(hk e he).2⟩)
 have hc:(Instr.checkKey false 10000 190 (zbx a n)).run Tryz.prog w=.ok () w:=zgU false 9998 a n w
 have hold:∀(i:Nat),∃b m,((es[i]?).map (·.key)).getD (zbx a n)=zbx b m/\zcu w b/\b.block<g:=fun i=>by
  cases he:es[i]? with
  | none=>exact ⟨a,n,rfl,ha,hag⟩
  | some e =>
   obtain ⟨⟨b,m,h1,h2⟩,_⟩:=hk e (by rw[Array.getElem?_eq_some_iff] at he;obtain ⟨hi,rfl⟩:=he;simp)
   exact ⟨b,m,h1,h2⟩
 have hstay:∀(o:Value) (q:Nat),∃(k:Value) (q':Nat),(Instr.keyThatStays o (zbx a n)).run Tryz.prog (w.drewN q)=.ok k (w.drewN q')/\(k=o\/k=zbx a n):=fun o q=>by
  unfold Instr.keyThatStays
  split
  ·exact ⟨_,q,rfl,Or.inr rfl⟩
  ·have hq:=run_choose_drew Tryz.prog (w.drewN q) (.extern "map.whichKeyStays" 2)
   rw[jY,hq]
   split
   ·rw[jF]
    exact ⟨_,q,rfl,by split;exact Or.inr rfl;exact Or.inl rfl⟩
   ·rw[jF]
    exact ⟨_,q+1,rfl,by split;exact Or.inr rfl;exact Or.inl rfl⟩
 have fin:∀(q:Nat) (o:Obj),(∃es' clock',o=.map es' clock'/\∀e∈es'.toList,(∃a n,e.key=zbx a n/\zcu w a/\a.block<g)/\e.val=zgS) ->
   MapAt {w.drewN q with heap:=(w.drewN q).heap.setIfInBounds g o} g/\w.grownBy {w.drewN q with heap:=(w.drewN q).heap.setIfInBounds g o} (some g):=by
  rintro q o ⟨es',clock',rfl,hk'⟩
  have hg:g<w.heap.size:=by
   rcases Nat.lt_or_ge g w.heap.size with x | x
   ·exact x
   ·rw[xM x] at hb;cases hb
  refine ⟨⟨es',clock',by show (w.heap.setIfInBounds g _)[g]?=_;rw[xD hg],fun e he=>?_⟩,⟨rfl,rfl,rfl,by show w.heap.size<=(w.heap.setIfInBounds g _).size;simp,fun k hk2 hne=>by show (w.heap.setIfInBounds g _)[k]?=_;rw[jT (fun e=>hne (by rw[e]))]⟩⟩
  obtain ⟨⟨b,m,h1,h2,h4⟩,h3⟩:=hk' e he
  refine ⟨⟨b,m,h1,h2.block ?_,h4⟩,h3⟩
  show (w.heap.setIfInBounds g _)[b.block]?=_
  rw[jT (by omega)]
 unfold Instr.mapUpdate
 simp only[jY,yI Tryz.underlying187,jF,zq3 hb,gG,hc,h1]
 have hb':(w.drewN q).heap[g]?=some (.map es clock):=hb
 cases r with
 | none =>
  simp only[zq4 _ hb']
  refine ⟨_,rfl,fin q _ ⟨_,_,rfl,fun e he=>?_⟩⟩
  rw[Array.toList_push,yO,xG] at he
  rcases he with he | rfl
  ·exact hk e he
  ·exact ⟨⟨a,n,rfl,ha,hag⟩,rfl⟩
 | some x =>
  obtain ⟨i,v⟩:=x
  obtain ⟨b,m,hb1,hb2⟩:=hold i
  obtain ⟨k,q',hs1,hs2⟩:=hstay (((es[i]?).map (·.key)).getD (zbx a n)) q
  have hb'':(w.drewN q').heap[g]?=some (.map es clock):=hb
  simp only[jY,hs1,jF,zq4 _ hb'']
  refine ⟨_,rfl,fin q' _ ⟨_,_,rfl,fun e he=>?_⟩⟩
  rw[Array.mem_toList_iff,Array.mem_iff_getElem] at he
  obtain ⟨j,hj,rfl⟩:=he
  rw[Array.getElem_modify]
  have hj':j<es.size:=by simpa using hj
  have hek:=hk es[j] (by simp)
  split
  ·refine ⟨?_,rfl⟩
   rcases hs2 with hs2 | hs2
   ·exact ⟨b,m,hs2.trans hb1,hb2⟩
   ·exact ⟨a,n,hs2,ha,hag⟩
  ·exact hek
theorem MapAt.keep {w w':World} {g:Nat} (h:MapAt w g) (hb:Below (g+1) w w'):MapAt w' g:=by
 obtain ⟨es,clock,h1,h2⟩:=h
 refine ⟨es,clock,by rw[hb.block g (xW _)];exact h1,fun e he=>?_⟩
 obtain ⟨⟨a,n,h3,h4,h6⟩,h5⟩:=h2 e he
 exact ⟨⟨a,n,h3,h4.block (hb.block _ (by omega)),h6⟩,h5⟩
theorem MapAt.lt {w:World} {g:Nat} (h:MapAt w g):g<w.heap.size:=by
 obtain ⟨es,clock,h1,_⟩:=h
 rcases Nat.lt_or_ge g w.heap.size with q | q
 ·exact q
 ·rw[xM q] at h1;cases h1
theorem MapAt.next {w w':World} {g:Nat} (h:MapAt w g) (hb:Below w.heap.size w w'):MapAt w' g:=h.keep (hb.mono h.lt)
end

section
open Go.RowKit
def Tr.Sol (w:World):Nat->Tr->Prop
 | 0,_=>True
 | k+1,t=>(0<t.n->∀b off,t.addr=some ⟨b,off,none⟩->w.frozen? ⟨b,off,none⟩=false)/\∀p∈t.parts,Tr.Sol w k p
theorem Tr.Sol.grown {w w':World} {row:Option Nat} (hg:w.grownBy w' row):∀(k:Nat) (t:Tr),(∀g,row=some g->Tr.Off g k t)->Tr.In w k t->Tr.Sol w k t->Tr.Sol w' k t
 | 0,_,_,_,_=>trivial
 | k+1,t,hf,h,hs=>⟨fun h0 b off e=>by
   obtain ⟨b',off',e',hlt,_⟩:=h.2.2.1 h0
   rw[e] at e'
   injection e' with e'
   injection e' with e1 e2
   subst e1;subst e2
   rw[World.frozen?_of_block (w:=w) (hg.block b hlt (fun q=>(hf b q.symm).1 h0 b off e rfl))]
   exact hs.1 h0 b off e,fun p hp=>by
   obtain ⟨j,hj,rfl⟩:=yT hp
   exact Tr.Sol.grown hg k _ (fun g e=>(hf g e).2 _ hp) (h.2.2.2 j hj) (hs.2 _ hp)⟩
theorem Tr.Sol.up {w:World}:∀(k:Nat) (t:Tr),Tr.In w k t->Tr.Sol w k t->Tr.Sol w (k+1) t
 | 0,_,h,_=>h.elim
 | k+1,t,h,o=>⟨o.1,fun p hp=>by
   obtain ⟨j,hj,rfl⟩:=yT hp
   exact Tr.Sol.up k _ (h.2.2.2 j hj) (o.2 _ hp)⟩
def Tr.Ins (w:World) (k:Nat) (t:Tr):Prop:=Tr.In w k t/\Tr.Sol w k t
theorem Tr.Ins.grown {w w':World} {row:Option Nat} (hg:w.grownBy w' row) (k:Nat) (t:Tr) (hf:∀g,row=some g->Tr.Off g k t) (h:Tr.Ins w k t):Tr.Ins w' k t:=⟨Tr.In.grown hg k t hf h.1,Tr.Sol.grown hg k t hf h.1 h.2⟩
theorem Tr.Ins.next {w w':World} {k:Nat} {t:Tr} (h:Tr.Ins w k t) (hb:Below w.heap.size w w'):Tr.Ins w' k t:=Tr.Ins.grown (row:=none) ⟨hb.os,hb.tape,hb.output,hb.size,fun i hi _=>hb.block i hi⟩ k t (fun g e=>by cases e) h
theorem Tr.Ins.up {w:World} {k:Nat} {t:Tr} (h:Tr.Ins w k t):Tr.Ins w (k+1) t:=⟨Tr.In.up _ _ h.1,Tr.Sol.up _ _ h.1 h.2⟩
theorem Tr.Ins.upto {w:World} {t:Tr} {k k':Nat} (h:Tr.Ins w k t) (hk:k<=k'):Tr.Ins w k' t:=by
 obtain ⟨d,rfl⟩:∃d,k'=k+d:=⟨k'-k,by omega⟩
 clear hk
 induction d with
 | zero=>exact h
 | succ d ih=>exact ih.up
theorem zil {w w':World} {base:Nat} {e:TypeId} {size:Nat} {v:Value} {n:Nat} {xs:List Value} {g:Nat} (h:w.ownsRow base e size v n xs) (hg:w.grownBy w' (some g)) (hb:g<base):w'.ownsRow base e size v n xs:=by
 obtain ⟨h1,h2⟩:=h
 refine ⟨h1,?_⟩
 rcases h2 with h2 | ⟨b,cap,cur,hv,hbb,hh,r⟩
 ·exact Or.inl h2
 ·refine Or.inr ⟨b,cap,cur,hv,hbb,?_,r⟩
  have hlt:b<w.heap.size:=by
   rcases Nat.lt_or_ge b w.heap.size with q | q
   ·exact q
   ·rw[xM q] at hh;cases hh
  rw[hg.block b hlt (fun e=>by cases e;omega)];exact hh
theorem zl4 {w w':World} {g:Nat} (h:w.grownBy w' (some g)) (hg:g<=w.heap.size):Below g w w':=⟨h.os,h.tape,h.output,h.size,fun k hk=>h.block k (by omega) (fun e=>by cases e;omega)⟩
end

section
open Go.RowKit
def zcO:Nat->Tr->Nat
 | 0,_=>1
 | k+1,t=>1+(t.parts.map (zcO k)).sum
def lmS (k:Nat) (ms:List Tr):Nat:=(ms.map (zcO k)).sum
theorem zkX (k:Nat) (t:Tr):1<=zcO k t:=by cases k<;>simp[zcO]
theorem zt2 {k:Nat} {ms:List Tr} (h:0<ms.length):1<=lmS k ms:=by
 cases ms with
 | nil=>exact absurd h (jM 0)
 | cons t r=>have:=zkX k t;unfold lmS;rw[jW,kM];omega
theorem zl5 (k:Nat) (t:Tr):zcO (k+1) t=1+lmS k t.parts:=rfl
end
end Go.Proofs.YtdmodhnhldbpnaaGreat
