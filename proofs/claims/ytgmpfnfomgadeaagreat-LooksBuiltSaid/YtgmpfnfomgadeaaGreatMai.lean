/- Joined: Place, Pair, Ins, Mass. -/
import Derived.Test.YtgmpfnfomgadeaaGreatProg
import Derived.Test.YtgmpfnfomgadeaaGreatMah
import Derived.WalkKit
import Derived.Deep.WholeRow
import Derived.MapKept
import Derived.ChangeKeysEq
import Derived.Test.YtgmpfnfomgadeaaGreatMaa
/- Places of lists as keys of a map: whatever '==' answers of two of them, something is answered, and nothing turns. -/
set_option linter.unusedSimpArgs false
set_option linter.unusedVariables false
set_option maxRecDepth 20000
namespace Go.Proofs.YtgmpfnfomgadeaaGreat
open Go.RowKit
def Solid (w:World) (a:Addr):Prop:=(w.shape? a.block).isSome=true∧w.frozen? a=false
theorem sameAddr_any (w:World) (a b:Addr) (ha:Solid w a) (hb:Solid w b):∃(r:Bool) (n:Nat),(sameAddr a b).run Tryz.prog w=.ok r (w.drewN n):=by
  obtain ⟨sa,fa⟩:=ha
  obtain ⟨sb,fb⟩:=hb
  by_cases hab:a.block=b.block
  · exact ⟨a==b,0,by rw[show w.drewN 0=w from rfl];simp[sameAddr,hab]⟩
  · have hm:∃m:Bool,(mayBeOne a b).run Tryz.prog w=.ok m w:=by
      obtain ⟨xa,hxa⟩:=Option.isSome_iff_exists.1 sa
      obtain ⟨xb,hxb⟩:=Option.isSome_iff_exists.1 sb
      obtain ⟨ta,na⟩:=xa
      obtain ⟨tb,nb⟩:=xb
      simp[mayBeOne,stringish,frozen,shape,fa,fb,hxa,hxb,Sem.run]
    obtain ⟨m,hm⟩:=hm
    have hv:∀c:Addr,(w.shape? c.block).isSome=true→(noView c).run Tryz.prog w=.ok () w:=fun c hc=>by
      simp[noView,viewAt,shape,hc,Sem.run]
    have hfa:(frozen a).run Tryz.prog w=.ok false w:=by simp[frozen,fa,Sem.run]
    have hfb:(frozen b).run Tryz.prog w=.ok false w:=by simp[frozen,fb,Sem.run]
    have e:(sameAddr a b).run Tryz.prog w=(do if m then return (←choose (.extern "sameAddr.stringBytes" 2))==1 else pure false:Sem Bool).run Tryz.prog w:=by
      unfold sameAddr
      rw[if_neg (by simpa using hab)]
      simp only[Sem.run_bind,hfa,hfb,hv a sa,hv b sb,hm]
      cases m<;>simp[Result.andThen,hfa,hfb,hv a sa,hv b sb,hm]
    rw[e]
    cases m with
    | false=>exact ⟨false,0,rfl⟩
    | true =>
      have q:=run_choose_drew Tryz.prog w (.extern "sameAddr.stringBytes" 2)
      rw[if_pos rfl,Sem.run_bind,q]
      split
      · exact ⟨_,0,rfl⟩
      · exact ⟨_,1,rfl⟩
def placeV (a:Addr) (n:Int):Value:=.agg #[.pointer (some a),.int .i64 n]
theorem fields_pl:(Tryz.prog.fieldsOf 97).toList.map (fun f=>(f.name,f.type,f.offset))=[("first",95,0),("n",3,1)]:=by kernel_rfl
theorem fields_pl':∃f0 f1,(Tryz.prog.fieldsOf 97).toList=[f0,f1]∧(f0.name="first"∧f0.type=95∧f0.offset=0)∧(f1.name="n"∧f1.type=3∧f1.offset=1):=by
  have h:=fields_pl
  generalize (Tryz.prog.fieldsOf 97).toList=l at h ⊢
  have hl:l.length=2:=by have:=congrArg List.length h;simpa using this
  match l,hl with
  | [f0,f1],_ =>
    simp only[List.map_cons,List.map_nil,List.cons.injEq,Prod.mk.injEq,and_true] at h
    exact ⟨f0,f1,rfl,h.1,h.2⟩
theorem struct_pl:Tryz.prog.underlying 97=some (.struct (Tryz.prog.fieldsOf 97)):=by kernel_rfl
theorem stood_pl:Tryz.prog.stoodInHeld 97=false:=by kernel_rfl
theorem pl_part0 (w:World) (a:Addr) (n:Int):(part 95 #[.pointer (some a),.int .i64 n] 0).run Tryz.prog w=.ok (.pointer (some a)) w:=by
  simp[part,isAgg,run_underlying Tryz.underlying95]
theorem pl_part1 (w:World) (a:Addr) (n:Int):(part 3 #[.pointer (some a),.int .i64 n] 1).run Tryz.prog w=.ok (.int .i64 n) w:=by
  simp[part,isAgg,run_underlying Tryz.underlying3]
theorem size_re (w:World):(Go.sizeOf 27).run Tryz.prog w=.ok 9 w:=by
  have h:(Tryz.prog.info? 27).map (·.size)=some 9:=by kernel_rfl
  cases hi:Tryz.prog.info? 27 with
  | none=>rw[hi] at h;cases h
  | some i=>rw[hi] at h;simp at h;simp[Go.sizeOf,typeInfo,hi,h]
theorem ptrEq_any (d:Nat) (w:World) (a b:Addr) (ha:Solid w a) (hb:Solid w b):∃(r:Bool) (n:Nat),(Op.equalIn (d+1) 95 (.pointer (some a)) (.pointer (some b))).run Tryz.prog w=.ok r (w.drewN n):=by
  obtain ⟨r,n,h⟩:=sameAddr_any w a b ha hb
  refine ⟨r,n,?_⟩
  rw[←h]
  have hu:=run_underlying (w:=w) Tryz.underlying95
  simp only[Op.equalIn,Sem.run_bind,hu,Result.andThen_ok,size_re]
  simp
theorem placeEqD (d:Nat) (w:World) (a b:Addr) (m n:Int) (ha:Solid w a) (hb:Solid w b):∃(r:Bool) (q:Nat),(Op.equalIn (d+1+1) 97 (placeV a m) (placeV b n)).run Tryz.prog w=.ok r (w.drewN q):=by
  obtain ⟨r,q,h⟩:=ptrEq_any d w a b ha hb
  unfold placeV
  rw[run_equalIn_struct w (d+1) _ _ _ struct_pl stood_pl]
  obtain ⟨f0,f1,hfs,⟨n0,t0,o0⟩,⟨n1,t1,o1⟩⟩:=fields_pl'
  rw[hfs]
  have he1:(Op.equalIn (d+1) 3 (.int .i64 m) (.int .i64 n)).run Tryz.prog (w.drewN q)=.ok (m==n) (w.drewN q):=by
    rw[run_equalIn_int (w.drewN q) d 3 .i64 .i64 m n Tryz.underlying3]
  have hn0:f0.name≠"_":=by rw[n0];decide
  have hn1:f1.name≠"_":=by rw[n1];decide
  unfold Op.eqFields
  rw[if_pos hn0,t0,o0]
  simp only[Sem.run_bind,pl_part0,h,Result.andThen_ok]
  cases r with
  | false=>exact ⟨false,q,rfl⟩
  | true =>
    simp only[Bool.not_true,Bool.false_eq_true,if_false]
    unfold Op.eqFields
    rw[if_pos hn1,t1,o1]
    simp only[Sem.run_bind,pl_part1,he1,Result.andThen_ok]
    cases m==n with
    | false=>exact ⟨false,q,rfl⟩
    | true=>exact ⟨true,q,rfl⟩
theorem placeEq (w:World) (a b:Addr) (m n:Int) (ha:Solid w a) (hb:Solid w b):∃(r:Bool) (q:Nat),(Op.equal 97 (placeV a m) (placeV b n)).run Tryz.prog w=.ok r (w.drewN q):=placeEqD 9998 w a b m n ha hb
theorem Solid.drew {w:World} {a:Addr} (h:Solid w a) (q:Nat):Solid (w.drewN q) a:=h
def unitV:Value:=.agg #[]
def MapAt (w:World) (g:Nat):Prop:=∃es clock,w.heap[g]?=some (.map es clock)∧∀e∈es.toList,(∃a n,e.key=placeV a n∧Solid w a∧a.block<g)∧e.val=unitV
theorem find_any (a:Addr) (n:Int):∀(es:List MapEntry) (i:Nat) (w:World),Solid w a→(∀e∈es,(∃a n,e.key=placeV a n∧Solid w a)∧e.val=unitV) →
    ∃(r:Option (Nat×Value)) (q:Nat),(Instr.findAsking 97 (placeV a n) es i).run Tryz.prog w=.ok r (w.drewN q)∧∀x,r=some x→x.2=unitV
  | [],i,w,_,_=>⟨none,0,rfl,fun x h=>by cases h⟩
  | e::es,i,w,ha,hk=>by
    obtain ⟨⟨b,m,hkey,hb⟩,hval⟩:=hk e (by simp)
    obtain ⟨r,q,h⟩:=placeEq w a b n m ha hb
    cases r with
    | true=>exact ⟨some (i,e.val),q,by unfold Instr.findAsking;rw[hkey];simp only[Sem.run_bind,h,Result.andThen_ok];rfl,fun x hx=>by cases hx;exact hval⟩
    | false =>
      obtain ⟨r2,q2,h2,h3⟩:=find_any a n es (i+1) (w.drewN q) (ha.drew q) (fun e he=>by
        obtain ⟨⟨c,k,h1,h2⟩,h3⟩:=hk e (by simp[he])
        exact ⟨⟨c,k,h1,h2.drew q⟩,h3⟩)
      refine ⟨r2,q+q2,?_,h3⟩
      unfold Instr.findAsking
      rw[hkey]
      simp only[Sem.run_bind,h,Result.andThen_ok]
      rw[if_neg (by decide),h2]
      simp[World.drewN,Nat.add_assoc]
theorem findKey_any (a:Addr) (n:Int) (es:List MapEntry) (w:World) (ha:Solid w a) (hk:∀e∈es,(∃a n,e.key=placeV a n∧Solid w a)∧e.val=unitV) :
    ∃(r:Option (Nat×Value)) (q:Nat),(Instr.findKey 97 (placeV a n) es).run Tryz.prog w=.ok r (w.drewN q)∧∀x,r=some x→x.2=unitV:=by
  cases es with
  | nil=>exact ⟨none,0,by simp only[Instr.findKey,Sem.run_bind,run_underlying struct_pl,Result.andThen_ok,Instr.findNow];rfl,fun x h=>by cases h⟩
  | cons e es =>
    obtain ⟨r,q,h1,h2⟩:=find_any a n (e::es) 0 w ha hk
    exact ⟨r,q,by simp only[Instr.findKey,Sem.run_bind,run_underlying struct_pl,Result.andThen_ok,Instr.findNow,Instr.sameNow];exact h1,h2⟩
theorem check_place (em:Bool) (d:Nat) (a:Addr) (n:Int) (w:World):(Instr.checkKey em (d+1+1) 97 (placeV a n)).run Tryz.prog w=.ok () w:=by
  obtain ⟨f0,f1,hfs,⟨n0,t0,o0⟩,⟨n1,t1,o1⟩⟩:=fields_pl'
  have hn0:f0.name≠"_":=by rw[n0];decide
  have hn1:f1.name≠"_":=by rw[n1];decide
  have hc0:(Instr.checkKey em (d+1) 95 (.pointer (some a))).run Tryz.prog w=.ok () w:=by
    unfold Instr.checkKey
    simp only[Sem.run_bind,run_underlying Tryz.underlying95,Result.andThen_ok]
    rfl
  have hc1:(Instr.checkKey em (d+1) 3 (.int .i64 n)).run Tryz.prog w=.ok () w:=by
    unfold Instr.checkKey
    simp only[Sem.run_bind,run_underlying Tryz.underlying3,Result.andThen_ok]
    rfl
  unfold Instr.checkKey placeV
  simp only[Sem.run_bind,run_underlying struct_pl,Result.andThen_ok]
  rw[←Array.forIn_toList,hfs]
  simp only[List.forIn_cons,if_pos hn0,if_pos hn1,t0,t1,o0,o1,Sem.run_bind,pl_part0,pl_part1,hc0,hc1,Result.andThen_ok,Sem.run_pure,List.forIn_nil]
theorem getMap {w:World} {r:Nat} {es:Array MapEntry} {clock:Nat} (hb:w.heap[r]?=some (.map es clock)):(getObj r).run Tryz.prog w=.ok (.map es clock) w:=by
  simp[getObj,Sem.run,hb]
theorem setMap {w:World} {r:Nat} {es:Array MapEntry} {clock:Nat} (o:Obj) (hb:w.heap[r]?=some (.map es clock)):(setObj r o).run Tryz.prog w=.ok () {w with heap:=w.heap.setIfInBounds r o}:=by
  simp[setObj,Sem.run,hb]
theorem Solid.block {w w':World} {a:Addr} (h:Solid w a) (e:w'.heap[a.block]?=w.heap[a.block]?):Solid w' a:=by
  unfold Solid World.shape? World.frozen? at *
  rw[e];exact h
theorem lookup_any (w:World) (g:Nat) (a:Addr) (n:Int) (h:MapAt w g) (ha:Solid w a) :
    ∃(b:Bool) (q:Nat),(Instr.lookup 120 (.map (some g)) (placeV a n) true).run Tryz.prog w=.ok (.tuple #[unitV,.bool b]) (w.drewN q):=by
  obtain ⟨es,clock,hb,hk⟩:=h
  obtain ⟨r,q,h1,h2⟩:=findKey_any a n es.toList w ha (fun e he=>⟨by obtain ⟨⟨b,m,x,y,_⟩,_⟩:=hk e he;exact ⟨b,m,x,y⟩,(hk e he).2⟩)
  have hz:(zeroValue 100).run Tryz.prog (w.drewN q)=.ok unitV (w.drewN q):=(zero_of_info (P:=Tryz.prog) (n:=0) (by kernel_rfl)).1 _
  have hc:(Instr.checkKey es.isEmpty 10000 97 (placeV a n)).run Tryz.prog w=.ok () w:=check_place es.isEmpty 9998 a n w
  unfold Instr.lookup
  simp only[Sem.run_bind,run_underlying Tryz.underlying120,Result.andThen_ok,getMap hb,Sem.run_pure,hc,h1]
  cases r with
  | none=>exact ⟨false,q,by simp only[Sem.run_bind,hz,Result.andThen_ok,Sem.run_pure];rfl⟩
  | some x=>exact ⟨true,q,by obtain ⟨i,v⟩:=x;have:=h2 _ rfl;subst this;simp only[Sem.run_pure,Result.andThen_ok];rfl⟩
theorem update_any (w:World) (g:Nat) (a:Addr) (n:Int) (h:MapAt w g) (ha:Solid w a) (hag:a.block<g) :
    ∃w',(Instr.mapUpdate 120 (.map (some g)) (placeV a n) unitV).run Tryz.prog w=.ok () w'∧MapAt w' g∧w.grownBy w' (some g):=by
  obtain ⟨es,clock,hb,hk⟩:=h
  obtain ⟨r,q,h1,h2⟩:=findKey_any a n es.toList w ha (fun e he=>⟨by obtain ⟨⟨b,m,x,y,_⟩,_⟩:=hk e he;exact ⟨b,m,x,y⟩,(hk e he).2⟩)
  have hc:(Instr.checkKey false 10000 97 (placeV a n)).run Tryz.prog w=.ok () w:=check_place false 9998 a n w
  have hold:∀(i:Nat),∃b m,((es[i]?).map (·.key)).getD (placeV a n)=placeV b m∧Solid w b∧b.block<g:=fun i=>by
    cases he:es[i]? with
    | none=>exact ⟨a,n,rfl,ha,hag⟩
    | some e =>
      obtain ⟨⟨b,m,h1,h2⟩,_⟩:=hk e (by rw[Array.getElem?_eq_some_iff] at he;obtain ⟨hi,rfl⟩:=he;simp)
      exact ⟨b,m,h1,h2⟩
  have hstay:∀(o:Value) (q:Nat),∃(k:Value) (q':Nat),(Instr.keyThatStays o (placeV a n)).run Tryz.prog (w.drewN q)=.ok k (w.drewN q')∧(k=o∨k=placeV a n):=fun o q=>by
    unfold Instr.keyThatStays
    split
    · exact ⟨_,q,rfl,Or.inr rfl⟩
    · have hq:=run_choose_drew Tryz.prog (w.drewN q) (.extern "map.whichKeyStays" 2)
      rw[Sem.run_bind,hq]
      split
      · rw[Result.andThen_ok]
        exact ⟨_,q,rfl,by split;exact Or.inr rfl;exact Or.inl rfl⟩
      · rw[Result.andThen_ok]
        exact ⟨_,q+1,rfl,by split;exact Or.inr rfl;exact Or.inl rfl⟩
  have fin:∀(q:Nat) (o:Obj),(∃es' clock',o=.map es' clock'∧∀e∈es'.toList,(∃a n,e.key=placeV a n∧Solid w a∧a.block<g)∧e.val=unitV) →
      MapAt {w.drewN q with heap:=(w.drewN q).heap.setIfInBounds g o} g∧w.grownBy {w.drewN q with heap:=(w.drewN q).heap.setIfInBounds g o} (some g):=by
    rintro q o ⟨es',clock',rfl,hk'⟩
    have hg:g<w.heap.size:=by
      rcases Nat.lt_or_ge g w.heap.size with x | x
      · exact x
      · rw[Array.getElem?_eq_none x] at hb;cases hb
    refine ⟨⟨es',clock',by show (w.heap.setIfInBounds g _)[g]?=_;rw[Array.getElem?_setIfInBounds_self_of_lt hg],fun e he=>?_⟩,⟨rfl,rfl,rfl,by show w.heap.size≤(w.heap.setIfInBounds g _).size;simp,fun k hk2 hne=>by show (w.heap.setIfInBounds g _)[k]?=_;rw[Array.getElem?_setIfInBounds_ne (fun e=>hne (by rw[e]))]⟩⟩
    obtain ⟨⟨b,m,h1,h2,h4⟩,h3⟩:=hk' e he
    refine ⟨⟨b,m,h1,h2.block ?_,h4⟩,h3⟩
    show (w.heap.setIfInBounds g _)[b.block]?=_
    rw[Array.getElem?_setIfInBounds_ne (by omega)]
  unfold Instr.mapUpdate
  simp only[Sem.run_bind,run_underlying Tryz.underlying120,Result.andThen_ok,getMap hb,Sem.run_pure,hc,h1]
  have hb':(w.drewN q).heap[g]?=some (.map es clock):=hb
  cases r with
  | none =>
    simp only[setMap _ hb']
    refine ⟨_,rfl,fin q _ ⟨_,_,rfl,fun e he=>?_⟩⟩
    rw[Array.toList_push,List.mem_append,List.mem_singleton] at he
    rcases he with he | rfl
    · exact hk e he
    · exact ⟨⟨a,n,rfl,ha,hag⟩,rfl⟩
  | some x =>
    obtain ⟨i,v⟩:=x
    obtain ⟨b,m,hb1,hb2⟩:=hold i
    obtain ⟨k,q',hs1,hs2⟩:=hstay (((es[i]?).map (·.key)).getD (placeV a n)) q
    have hb'':(w.drewN q').heap[g]?=some (.map es clock):=hb
    simp only[Sem.run_bind,hs1,Result.andThen_ok,setMap _ hb'']
    refine ⟨_,rfl,fin q' _ ⟨_,_,rfl,fun e he=>?_⟩⟩
    rw[Array.mem_toList_iff,Array.mem_iff_getElem] at he
    obtain ⟨j,hj,rfl⟩:=he
    rw[Array.getElem_modify]
    have hj':j<es.size:=by simpa using hj
    have hek:=hk es[j] (by simp)
    split
    · refine ⟨?_,rfl⟩
      rcases hs2 with hs2 | hs2
      · exact ⟨b,m,hs2.trans hb1,hb2⟩
      · exact ⟨a,n,hs2,ha,hag⟩
    · exact hek
theorem MapAt.keep {w w':World} {g:Nat} (h:MapAt w g) (hb:Below (g+1) w w'):MapAt w' g:=by
  obtain ⟨es,clock,h1,h2⟩:=h
  refine ⟨es,clock,by rw[hb.block g (Nat.lt_succ_self _)];exact h1,fun e he=>?_⟩
  obtain ⟨⟨a,n,h3,h4,h6⟩,h5⟩:=h2 e he
  exact ⟨⟨a,n,h3,h4.block (hb.block _ (by omega)),h6⟩,h5⟩
theorem MapAt.lt {w:World} {g:Nat} (h:MapAt w g):g<w.heap.size:=by
  obtain ⟨es,clock,h1,_⟩:=h
  rcases Nat.lt_or_ge g w.heap.size with q | q
  · exact q
  · rw[Array.getElem?_eq_none q] at h1;cases h1
theorem MapAt.next {w w':World} {g:Nat} (h:MapAt w g) (hb:Below w.heap.size w w'):MapAt w' g:=h.keep (hb.mono h.lt)
end Go.Proofs.YtgmpfnfomgadeaaGreat

/- Pairs of places as keys of a map, where the first place lies in a block that no key so far names: such a key isn't there, and the tape isn't asked. -/
set_option linter.unusedSimpArgs false
set_option linter.unusedVariables false
set_option maxRecDepth 20000
namespace Go.Proofs.YtgmpfnfomgadeaaGreat
open Go.RowKit
def Clean (w:World) (g:Nat):Prop:=∃t cs,At w g t cs
theorem Clean.lt {w:World} {g:Nat} (h:Clean w g):g<w.heap.size:=by obtain ⟨t,cs,h⟩:=h;exact At.lt h
theorem Clean.block {w w':World} {g:Nat} (h:Clean w g) (e:w'.heap[g]?=w.heap[g]?):Clean w' g:=by obtain ⟨t,cs,h⟩:=h;exact ⟨t,cs,e.trans h⟩
theorem Clean.shape {w:World} {g:Nat} (h:Clean w g):∃x,w.shape? g=some x:=by
  obtain ⟨t,cs,h⟩:=h
  unfold At at h
  exact ⟨_,by unfold World.shape?;rw[h]⟩
theorem Clean.free {w:World} {g:Nat} (h:Clean w g) (o:Nat):w.frozen? ⟨g,o,none⟩=false:=by obtain ⟨t,cs,h⟩:=h;exact At.free h o
theorem sameAddr_no (w:World) (a b:Nat) (ha:Clean w a) (hb:Clean w b) (hne:a≠b):(sameAddr ⟨a,0,none⟩ ⟨b,0,none⟩).run Tryz.prog w=.ok false w:=by
  obtain ⟨⟨ta,na⟩,sa⟩:=ha.shape
  obtain ⟨⟨tb,nb⟩,sb⟩:=hb.shape
  have fa:∀o,w.frozen? ⟨a,o,none⟩=false:=ha.free
  have fb:∀o,w.frozen? ⟨b,o,none⟩=false:=hb.free
  simp[sameAddr,hne,fa,fb,noView,viewAt,sa,sb,mayBeOne,stringish,frozen,shape,Sem.run]
theorem ptrEq_no (d:Nat) (w:World) (a b:Nat) (ha:Clean w a) (hb:Clean w b) (hne:a≠b):(Op.equalIn (d+1) 95 (.pointer (some ⟨a,0,none⟩)) (.pointer (some ⟨b,0,none⟩))).run Tryz.prog w=.ok false w:=by
  rw[←sameAddr_no w a b ha hb hne]
  have hu:=run_underlying (w:=w) Tryz.underlying95
  simp only[Op.equalIn,Sem.run_bind,hu,Result.andThen_ok,size_re]
  simp
theorem placeEq_no (d:Nat) (w:World) (a b:Nat) (m n:Int) (ha:Clean w a) (hb:Clean w b) (hne:a≠b):(Op.equalIn (d+1+1) 97 (placeV ⟨a,0,none⟩ m) (placeV ⟨b,0,none⟩ n)).run Tryz.prog w=.ok false w:=by
  have h:=ptrEq_no d w a b ha hb hne
  unfold placeV
  rw[run_equalIn_struct w (d+1) _ _ _ struct_pl stood_pl]
  obtain ⟨f0,f1,hfs,⟨n0,t0,o0⟩,⟨n1,t1,o1⟩⟩:=fields_pl'
  rw[hfs]
  have hn0:f0.name≠"_":=by rw[n0];decide
  unfold Op.eqFields
  rw[if_pos hn0,t0,o0]
  simp only[Sem.run_bind,pl_part0,h,Result.andThen_ok]
  rfl
def pairV (a:Nat) (n:Int) (b:Addr) (m:Int):Value:=.agg #[.pointer (some ⟨a,0,none⟩),.int .i64 n,.pointer (some b),.int .i64 m]
theorem array_pr:Tryz.prog.underlying 99=some (.array 2 97):=by kernel_rfl
theorem info_pl:∃i,Tryz.prog.info? 97=some i:=by
  have h:(Tryz.prog.info? 97).isSome=true:=by kernel_rfl
  exact Option.isSome_iff_exists.1 h
theorem cells_pl:Tryz.prog.cellsOf 97=2:=by kernel_rfl
theorem size_pl (w:World):(Go.sizeOf 97).run Tryz.prog w=.ok 2 w:=by
  have h:(Tryz.prog.info? 97).map (·.size)=some 2:=by kernel_rfl
  cases hi:Tryz.prog.info? 97 with
  | none=>rw[hi] at h;cases h
  | some i=>rw[hi] at h;simp at h;simp[Go.sizeOf,typeInfo,hi,h]
theorem pr_part0 (w:World) (a:Nat) (n:Int) (b:Addr) (m:Int):(part 97 #[.pointer (some ⟨a,0,none⟩),.int .i64 n,.pointer (some b),.int .i64 m] 0).run Tryz.prog w=.ok (placeV ⟨a,0,none⟩ n) w:=by
  unfold part
  simp only[isAgg,Sem.run_bind,run_underlying struct_pl,Result.andThen_ok,Sem.run_pure,size_pl,if_true]
  rfl
theorem pr_part2 (w:World) (a:Nat) (n:Int) (b:Addr) (m:Int):(part 97 #[.pointer (some ⟨a,0,none⟩),.int .i64 n,.pointer (some b),.int .i64 m] 2).run Tryz.prog w=.ok (placeV b m) w:=by
  unfold part
  simp only[isAgg,Sem.run_bind,run_underlying struct_pl,Result.andThen_ok,Sem.run_pure,size_pl,if_true]
  rfl
theorem pairEqD (d:Nat) (w:World) (a b:Nat) (n m:Int) (x y:Addr) (p q:Int) (ha:Clean w a) (hb:Clean w b) (hne:a≠b):(Op.equalIn (d+1+1+1) 99 (pairV a n x p) (pairV b m y q)).run Tryz.prog w=.ok false w:=by
  obtain ⟨i,hi⟩:=info_pl
  unfold pairV
  rw[run_equalIn_array w (d+1+1) _ _ array_pr hi,cells_pl]
  show (Op.eqItems (d+1+1) 97 2 _ _ [0,1]).run Tryz.prog w=_
  unfold Op.eqItems
  simp only[Sem.run_bind,Nat.zero_mul,pr_part0,placeEq_no d w a b n m ha hb hne,Result.andThen_ok]
  rfl
theorem pairEq (w:World) (a b:Nat) (n m:Int) (x y:Addr) (p q:Int) (ha:Clean w a) (hb:Clean w b) (hne:a≠b):(Op.equal 99 (pairV a n x p) (pairV b m y q)).run Tryz.prog w=.ok false w:=pairEqD 9997 w a b n m x y p q ha hb hne
def PairsAt (w:World) (g:Nat) (gs:List Nat):Prop:=∃es clock,w.heap[g]?=some (.map es clock)∧∀e∈es.toList,∃a n b m,e.key=pairV a n b m∧a∈gs∧a<g∧Clean w a
theorem find_no (x:Nat) (n:Int) (y:Addr) (m:Int) (w:World) (hx:Clean w x):∀(es:List MapEntry) (i:Nat),(∀e∈es,∃a n b m,e.key=pairV a n b m∧a≠x∧Clean w a) →
    (Instr.findAsking 99 (pairV x n y m) es i).run Tryz.prog w=.ok none w
  | [],i,_=>rfl
  | e::es,i,hk=>by
    obtain ⟨a,n',b,m',hkey,hne,hc⟩:=hk e (by simp)
    unfold Instr.findAsking
    rw[hkey]
    simp only[Sem.run_bind,pairEq w x a n n' y b m m' hx hc (Ne.symm hne),Result.andThen_ok]
    exact find_no x n y m w hx es (i+1) (fun e he=>hk e (by simp[he]))
theorem findKey_no (x:Nat) (n:Int) (y:Addr) (m:Int) (w:World) (hx:Clean w x) (es:List MapEntry) (hk:∀e∈es,∃a n b m,e.key=pairV a n b m∧a≠x∧Clean w a) :
    (Instr.findKey 99 (pairV x n y m) es).run Tryz.prog w=.ok none w:=by
  cases es with
  | nil=>simp only[Instr.findKey,Sem.run_bind,run_underlying array_pr,Result.andThen_ok,Instr.findNow];rfl
  | cons e es =>
    have h1:=find_no x n y m w hx (e::es) 0 hk
    simp only[Instr.findKey,Sem.run_bind,run_underlying array_pr,Result.andThen_ok,Instr.findNow,Instr.sameNow]
    exact h1
theorem check_pair (em:Bool) (d:Nat) (a:Nat) (n:Int) (b:Addr) (m:Int) (w:World):(Instr.checkKey em (d+1+1+1) 99 (pairV a n b m)).run Tryz.prog w=.ok () w:=by
  unfold Instr.checkKey pairV
  simp only[Sem.run_bind,run_underlying array_pr,Result.andThen_ok]
  simp only[Std.Legacy.Range.forIn_eq_forIn_range',Std.Legacy.Range.size,Nat.sub_zero,Nat.add_one_sub_one,Nat.div_one]
  rw[show List.range' 0 2=[0,1] from rfl]
  simp only[List.forIn_cons,Sem.run_bind,size_pl,Result.andThen_ok,Nat.zero_mul,Nat.one_mul,pr_part0,pr_part2,check_place,Sem.run_pure,List.forIn_nil]
theorem lookup_no (w:World) (g x:Nat) (n:Int) (y:Addr) (m:Int) (gs:List Nat) (h:PairsAt w g gs) (hx:Clean w x) (hn:x ∉ gs) :
    (Instr.lookup 94 (.map (some g)) (pairV x n y m) true).run Tryz.prog w=.ok (.tuple #[unitV,.bool false]) w:=by
  obtain ⟨es,clock,hb,hk⟩:=h
  have h1:=findKey_no x n y m w hx es.toList (fun e he=>by
    obtain ⟨a,n',b,m',e1,e2,_,e3⟩:=hk e he
    exact ⟨a,n',b,m',e1,fun q=>hn (q▸e2),e3⟩)
  have hz:(zeroValue 100).run Tryz.prog w=.ok unitV w:=(zero_of_info (P:=Tryz.prog) (n:=0) (by kernel_rfl)).1 _
  have hc:(Instr.checkKey es.isEmpty 10000 99 (pairV x n y m)).run Tryz.prog w=.ok () w:=check_pair es.isEmpty 9997 x n y m w
  unfold Instr.lookup
  simp only[Sem.run_bind,run_underlying Tryz.underlying94,Result.andThen_ok,getMap hb,Sem.run_pure,hc,h1,hz]
  rfl
theorem update_no (w:World) (g x:Nat) (n:Int) (y:Addr) (m:Int) (gs:List Nat) (h:PairsAt w g gs) (hx:Clean w x) (hxg:x<g) (hn:x ∉ gs) :
    ∃w',(Instr.mapUpdate 94 (.map (some g)) (pairV x n y m) unitV).run Tryz.prog w=.ok () w'∧PairsAt w' g (x::gs)∧w.grownBy w' (some g):=by
  obtain ⟨es,clock,hb,hk⟩:=h
  have h1:=findKey_no x n y m w hx es.toList (fun e he=>by
    obtain ⟨a,n',b,m',e1,e2,_,e3⟩:=hk e he
    exact ⟨a,n',b,m',e1,fun q=>hn (q▸e2),e3⟩)
  have hc:(Instr.checkKey false 10000 99 (pairV x n y m)).run Tryz.prog w=.ok () w:=check_pair false 9997 x n y m w
  have hg:g<w.heap.size:=by
    rcases Nat.lt_or_ge g w.heap.size with z | z
    · exact z
    · rw[Array.getElem?_eq_none z] at hb;cases hb
  unfold Instr.mapUpdate
  simp only[Sem.run_bind,run_underlying Tryz.underlying94,Result.andThen_ok,getMap hb,Sem.run_pure,hc,h1,setMap _ hb]
  refine ⟨_,rfl,⟨_,_,by show (w.heap.setIfInBounds g _)[g]?=_;rw[Array.getElem?_setIfInBounds_self_of_lt hg],fun e he=>?_⟩,⟨rfl,rfl,rfl,by show w.heap.size≤(w.heap.setIfInBounds g _).size;simp,fun k hk2 hne=>by show (w.heap.setIfInBounds g _)[k]?=_;rw[Array.getElem?_setIfInBounds_ne (fun e=>hne (by rw[e]))]⟩⟩
  have hcl:∀(o:Obj) a,a<g→Clean w a→Clean {w with heap:=w.heap.setIfInBounds g o} a:=fun o a ha q=>q.block (by show (w.heap.setIfInBounds g _)[a]?=_;rw[Array.getElem?_setIfInBounds_ne (by omega)])
  rw[Array.toList_push,List.mem_append,List.mem_singleton] at he
  rcases he with he | rfl
  · obtain ⟨a,n',b,m',e1,e2,e3,e4⟩:=hk e he
    exact ⟨a,n',b,m',e1,by simp[e2],e3,hcl _ a e3 e4⟩
  · exact ⟨x,n,y,m,rfl,by simp,hxg,hcl _ x hxg hx⟩
theorem PairsAt.keep {w w':World} {g:Nat} {gs:List Nat} (h:PairsAt w g gs) (hb:Below (g+1) w w'):PairsAt w' g gs:=by
  obtain ⟨es,clock,h1,h2⟩:=h
  refine ⟨es,clock,by rw[hb.block g (Nat.lt_succ_self _)];exact h1,fun e he=>?_⟩
  obtain ⟨a,n,b,m,h3,h4,h5,h6⟩:=h2 e he
  exact ⟨a,n,b,m,h3,h4,h5,h6.block (hb.block _ (by omega))⟩
theorem PairsAt.lt {w:World} {g:Nat} {gs:List Nat} (h:PairsAt w g gs):g<w.heap.size:=by
  obtain ⟨es,clock,h1,_⟩:=h
  rcases Nat.lt_or_ge g w.heap.size with q | q
  · exact q
  · rw[Array.getElem?_eq_none q] at h1;cases h1
theorem PairsAt.next {w w':World} {g:Nat} {gs:List Nat} (h:PairsAt w g gs) (hb:Below w.heap.size w w'):PairsAt w' g gs:=h.keep (hb.mono h.lt)
theorem make_mapP (w:World):(Instr.makeMap 94 none).run Tryz.prog w=.ok (.map (some w.heap.size)) (w.alloc (.map #[] 0)):=by kernel_rfl
theorem pairs_new (w:World):PairsAt (w.alloc (.map #[] 0)) w.heap.size []:=⟨#[],0,heap_alloc_new w _,fun e he=>by cases he⟩
end Go.Proofs.YtgmpfnfomgadeaaGreat

/- Trees as they lie, whose lists may be held against each other. No program is walked here. -/
set_option linter.unusedSimpArgs false
set_option linter.unusedVariables false
namespace Go.Proofs.YtgmpfnfomgadeaaGreat
open Go.RowKit
theorem Tr.In.more {w:World} {t:Tr} {k:Nat} (h:Tr.In w k t):∀d,Tr.In w (k+d) t
  | 0=>h
  | d+1=>Tr.In.up _ _ (Tr.In.more h d)
theorem Tr.In.upto {w:World} {t:Tr} {k k':Nat} (h:Tr.In w k t) (hk:k≤k'):Tr.In w k' t:=by
  have:=h.more (k'-k)
  rwa [show k+(k'-k)=k' by omega] at this
def Tr.Out (lo hi:Nat):Nat→Tr→Prop
  | 0,_=>True
  | k+1,t=>(0<t.n→∀b off,t.addr=some ⟨b,off,none⟩→b<lo∨hi≤b)∧∀p∈t.parts,Tr.Out lo hi k p
theorem Tr.Out.lower {lo hi hi':Nat} (hh:hi'≤hi):∀(k:Nat) (t:Tr),Tr.Out lo hi k t→Tr.Out lo hi' k t
  | 0,_,_=>trivial
  | k+1,t,h=>⟨fun h0 b off e=>(h.1 h0 b off e).imp id (fun q=>Nat.le_trans hh q),fun p hp=>Tr.Out.lower hh k p (h.2 p hp)⟩
theorem Tr.Out.off {lo hi b:Nat} (h1:lo≤b) (h2:b<hi):∀(k:Nat) (t:Tr),Tr.Out lo hi k t→Tr.Off b k t
  | 0,_,_=>trivial
  | k+1,t,h=>⟨fun h0 b' off e=>by have:=h.1 h0 b' off e;omega,fun p hp=>Tr.Out.off h1 h2 k p (h.2 p hp)⟩
theorem Tr.Out.up {w:World} {lo hi:Nat}:∀(k:Nat) (t:Tr),Tr.In w k t→Tr.Out lo hi k t→Tr.Out lo hi (k+1) t
  | 0,_,h,_=>h.elim
  | k+1,t,h,o=>⟨o.1,fun p hp=>by
      obtain ⟨j,hj,rfl⟩:=List.getElem_of_mem hp
      exact Tr.Out.up k _ (h.2.2.2 j hj) (o.2 _ hp)⟩
theorem Tr.Out.le {w:World} {lo hi k k':Nat} {t:Tr} (h:Tr.In w k t) (o:Tr.Out lo hi k t) (hk:k≤k'):Tr.Out lo hi k' t:=by
  obtain ⟨d,rfl⟩:∃d,k'=k+d:=⟨k'-k,by omega⟩
  clear hk
  induction d with
  | zero=>exact o
  | succ d ih=>exact Tr.Out.up (k+d) t (h.more d) ih
theorem Tr.Off.up {w:World} {g:Nat}:∀(k:Nat) (t:Tr),Tr.In w k t→Tr.Off g k t→Tr.Off g (k+1) t
  | 0,_,h,_=>h.elim
  | k+1,t,h,o=>⟨o.1,fun p hp=>by
      obtain ⟨j,hj,rfl⟩:=List.getElem_of_mem hp
      exact Tr.Off.up k _ (h.2.2.2 j hj) (o.2 _ hp)⟩
theorem Tr.Off.le {w:World} {g k k':Nat} {t:Tr} (h:Tr.In w k t) (o:Tr.Off g k t) (hk:k≤k'):Tr.Off g k' t:=by
  obtain ⟨d,rfl⟩:∃d,k'=k+d:=⟨k'-k,by omega⟩
  clear hk
  induction d with
  | zero=>exact o
  | succ d ih=>exact Tr.Off.up (k+d) t (h.more d) ih
theorem Tr.In.out' {w:World} {lo:Nat} (hl:w.heap.size≤lo) (hi:Nat):∀(k:Nat) (t:Tr),Tr.In w k t→Tr.Out lo hi k t
  | 0,_,_=>trivial
  | k+1,t,h=>⟨fun h0 b off e=>by
      obtain ⟨b',off',e',hlt,_⟩:=h.2.2.1 h0
      rw[e] at e'
      injection e' with e'
      injection e' with e1
      omega,fun p hp=>by
      obtain ⟨j,hj,rfl⟩:=List.getElem_of_mem hp
      exact Tr.In.out' hl hi k _ (h.2.2.2 j hj)⟩
def Tr.Sol (w:World):Nat→Tr→Prop
  | 0,_=>True
  | k+1,t=>(0<t.n→∀b off,t.addr=some ⟨b,off,none⟩→w.frozen? ⟨b,off,none⟩=false)∧∀p∈t.parts,Tr.Sol w k p
theorem Tr.Sol.grown {w w':World} {row:Option Nat} (hg:w.grownBy w' row):∀(k:Nat) (t:Tr),(∀g,row=some g→Tr.Off g k t)→Tr.In w k t→Tr.Sol w k t→Tr.Sol w' k t
  | 0,_,_,_,_=>trivial
  | k+1,t,hf,h,hs=>⟨fun h0 b off e=>by
      obtain ⟨b',off',e',hlt,_⟩:=h.2.2.1 h0
      rw[e] at e'
      injection e' with e'
      injection e' with e1 e2
      subst e1;subst e2
      rw[World.frozen?_of_block (w:=w) (hg.block b hlt (fun q=>(hf b q.symm).1 h0 b off e rfl))]
      exact hs.1 h0 b off e,fun p hp=>by
      obtain ⟨j,hj,rfl⟩:=List.getElem_of_mem hp
      exact Tr.Sol.grown hg k _ (fun g e=>(hf g e).2 _ hp) (h.2.2.2 j hj) (hs.2 _ hp)⟩
theorem Tr.Sol.up {w:World}:∀(k:Nat) (t:Tr),Tr.In w k t→Tr.Sol w k t→Tr.Sol w (k+1) t
  | 0,_,h,_=>h.elim
  | k+1,t,h,o=>⟨o.1,fun p hp=>by
      obtain ⟨j,hj,rfl⟩:=List.getElem_of_mem hp
      exact Tr.Sol.up k _ (h.2.2.2 j hj) (o.2 _ hp)⟩
def Tr.Ins (w:World) (k:Nat) (t:Tr):Prop:=Tr.In w k t∧Tr.Sol w k t
theorem Tr.Ins.grown {w w':World} {row:Option Nat} (hg:w.grownBy w' row) (k:Nat) (t:Tr) (hf:∀g,row=some g→Tr.Off g k t) (h:Tr.Ins w k t):Tr.Ins w' k t:=⟨Tr.In.grown hg k t hf h.1,Tr.Sol.grown hg k t hf h.1 h.2⟩
theorem Tr.Ins.next {w w':World} {k:Nat} {t:Tr} (h:Tr.Ins w k t) (hb:Below w.heap.size w w'):Tr.Ins w' k t:=Tr.Ins.grown (row:=none) ⟨hb.os,hb.tape,hb.output,hb.size,fun i hi _=>hb.block i hi⟩ k t (fun g e=>by cases e) h
theorem Tr.Ins.below {w w':World} {B k:Nat} {t:Tr} (h:Tr.Ins w k t) (hB:w.heap.size≤B) (hb:Below B w w'):Tr.Ins w' k t:=h.next (hb.mono hB)
theorem Tr.Ins.up {w:World} {k:Nat} {t:Tr} (h:Tr.Ins w k t):Tr.Ins w (k+1) t:=⟨Tr.In.up _ _ h.1,Tr.Sol.up _ _ h.1 h.2⟩
theorem Tr.Ins.upto {w:World} {t:Tr} {k k':Nat} (h:Tr.Ins w k t) (hk:k≤k'):Tr.Ins w k' t:=by
  obtain ⟨d,rfl⟩:∃d,k'=k+d:=⟨k'-k,by omega⟩
  clear hk
  induction d with
  | zero=>exact h
  | succ d ih=>exact ih.up
def Tr.Is (w:World) (lo hi:Nat) (t T:Tr):Prop:=∃k,Tr.Ins w k t∧Tr.Out lo hi k t∧∀k',k≤k'→t.strip k'=T
theorem Tr.Is.lower {w:World} {lo hi hi':Nat} {t T:Tr} (h:Tr.Is w lo hi t T) (hh:hi'≤hi):Tr.Is w lo hi' t T:=by
  obtain ⟨k,h1,h2,h3⟩:=h
  exact ⟨k,h1,h2.lower hh,h3⟩
theorem Tr.Is.grown {w w':World} {lo hi g:Nat} {t T:Tr} (h:Tr.Is w lo hi t T) (hg:w.grownBy w' (some g)) (h1:lo≤g) (h2:g<hi):Tr.Is w' lo hi t T:=by
  obtain ⟨k,i1,i2,i3⟩:=h
  exact ⟨k,Tr.Ins.grown hg k t (fun b e=>by cases e;exact i2.off h1 h2) i1,i2,i3⟩
theorem Tr.Is.next {w w':World} {lo hi:Nat} {t T:Tr} (h:Tr.Is w lo hi t T) (hb:Below w.heap.size w w'):Tr.Is w' lo hi t T:=by
  obtain ⟨k,i1,i2,i3⟩:=h
  exact ⟨k,i1.next hb,i2,i3⟩
theorem Tr.Is.same {w w':World} {lo hi:Nat} {t T:Tr} (h:Tr.Is w lo hi t T) (e:w'.heap=w.heap) (e1:w'.os=w.os) (e2:w'.tape=w.tape) (e3:w'.output=w.output):Tr.Is w' lo hi t T:=by
  obtain ⟨k,i1,i2,i3⟩:=h
  exact ⟨k,Tr.Ins.next (w':=w') i1 ⟨e1,e2,e3,by rw[e];exact Nat.le_refl _,fun q _=>by rw[e]⟩,i2,i3⟩
theorem Tr.Is.wide {w:World} {lo hi hi':Nat} {t T:Tr} (h:Tr.Is w lo hi t T) (hs:w.heap.size≤hi'):∀b,hi'≤b→∃k,Tr.Ins w k t∧Tr.Off b k t:=fun b hb=>by
  obtain ⟨k,i1,i2,i3⟩:=h
  exact ⟨k,i1,Tr.Off.new (by omega) k t i1.1⟩
theorem Tr.Is.kept {w w':World} {lo hi g:Nat} {t T:Tr} (h:Tr.Is w lo hi t T) (hg:w.grownBy w' (some g)) (hs:w.heap.size≤g):Tr.Is w' lo hi t T:=by
  obtain ⟨k,i1,i2,i3⟩:=h
  exact ⟨k,Tr.Ins.grown hg k t (fun b e=>by cases e;exact Tr.Off.new hs k t i1.1) i1,i2,i3⟩
theorem Tr.Off.down {g:Nat}:∀(k:Nat) (t:Tr),Tr.Off g (k+1) t→Tr.Off g k t
  | 0,_,_=>trivial
  | k+1,t,h=>⟨h.1,fun p hp=>Tr.Off.down k p (h.2 p hp)⟩
theorem Tr.Off.any {w:World} {g k k':Nat} {t:Tr} (h:Tr.In w k t) (o:Tr.Off g k t):Tr.Off g k' t:=by
  rcases Nat.le_total k k' with q | q
  · exact Tr.Off.le h o q
  · obtain ⟨d,rfl⟩:∃d,k=k'+d:=⟨k-k',by omega⟩
    clear q h
    induction d with
    | zero=>exact o
    | succ d ih=>exact ih (Tr.Off.down (k'+d) t o)
theorem Tr.Is.new {w:World} {lo hi:Nat} {t T:Tr} (h:Tr.Is w lo hi t T) (lo2 hi2:Nat) (hl:w.heap.size≤lo2):Tr.Is w lo2 hi2 t T:=by
  obtain ⟨k,i1,i2,i3⟩:=h
  refine ⟨k,i1,?_,i3⟩
  have:=Tr.In.out' hl hi2 k t i1.1
  exact this
theorem ownsRow_grown {w w':World} {base:Nat} {e:TypeId} {size:Nat} {v:Value} {n:Nat} {xs:List Value} {g:Nat} (h:w.ownsRow base e size v n xs) (hg:w.grownBy w' (some g)) (hb:g<base):w'.ownsRow base e size v n xs:=by
  obtain ⟨h1,h2⟩:=h
  refine ⟨h1,?_⟩
  rcases h2 with h2 | ⟨b,cap,cur,hv,hbb,hh,r⟩
  · exact Or.inl h2
  · refine Or.inr ⟨b,cap,cur,hv,hbb,?_,r⟩
    have hlt:b<w.heap.size:=by
      rcases Nat.lt_or_ge b w.heap.size with q | q
      · exact q
      · rw[Array.getElem?_eq_none q] at hh;cases hh
    rw[hg.block b hlt (fun e=>by cases e;omega)];exact hh
theorem grownBy_lo {w w':World} {g:Nat} (h:w.grownBy w' (some g)) (hg:g≤w.heap.size):Below g w w':=⟨h.os,h.tape,h.output,h.size,fun k hk=>h.block k (by omega) (fun e=>by cases e;omega)⟩
end Go.Proofs.YtgmpfnfomgadeaaGreat

/- How many nodes a pattern has. No program is named here. -/
set_option linter.unusedSimpArgs false
set_option linter.unusedVariables false
namespace Go.Proofs.YtgmpfnfomgadeaaGreat
open Go.RowKit
def massS:Nat→Tr→Nat
  | 0,_=>1
  | k+1,t=>1+(t.parts.map (massS k)).sum
def lmS (k:Nat) (ms:List Tr):Nat:=(ms.map (massS k)).sum
theorem mass_pos (k:Nat) (t:Tr):1≤massS k t:=by cases k<;>simp[massS]
theorem lm_pos {k:Nat} {ms:List Tr} (h:0<ms.length):1≤lmS k ms:=by
  cases ms with
  | nil=>exact absurd h (Nat.lt_irrefl 0)
  | cons t r=>have:=mass_pos k t;unfold lmS;rw[List.map_cons,List.sum_cons];omega
theorem mass_parts (k:Nat) (t:Tr):massS (k+1) t=1+lmS k t.parts:=rfl
end Go.Proofs.YtgmpfnfomgadeaaGreat
