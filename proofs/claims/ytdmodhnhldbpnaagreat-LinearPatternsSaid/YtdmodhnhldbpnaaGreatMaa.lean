/- Joined: Words, Cl, Row, Tr, Same, Formed, Slim, Table, Blank. -/
import Derived.WalkKit
import Derived.WalkSpells
import Derived.WalkLawsBesides
import Derived.Laws.BitsAllLaws
import Derived.Lib.Hide
import Derived.ChangeKeysEq
import Derived.Laws.StructEq
import Derived.Deep.MidRow
import Derived.Test.YtdmodhnhldbpnaaGreatProg
import Derived.Laws.MakeOwn
import Derived.Deep.OwnRows
import Derived.Test.YtdmodhnhldbpnaaGreatAid
/- Plain facts on sets of four words: which byte a set has, and what the words of "or", "and", "without" and "not" are. No program is named here. -/
set_option linter.unusedSimpArgs false
set_option linter.unusedVariables false
set_option maxHeartbeats 2000000
set_option maxRecDepth 100000
namespace Go.Proofs.YtdmodhnhldbpnaaGreat
section
open Go.RowKit
def U64 (n:Nat):Prop:=n<18446744073709551616
structure St where
 w0:Nat
 w1:Nat
 w2:Nat
 w3:Nat
def St.word (s:St) (i:Nat):Nat:=if i=0 then s.w0 else if i=1 then s.w1 else if i=2 then s.w2 else s.w3
def St.has (s:St) (x:Nat):Bool:=(s.word (x / 64)).testBit (x % 64)
structure St.Ok (s:St):Prop where
 o0:U64 s.w0
 o1:U64 s.w1
 o2:U64 s.w2
 o3:U64 s.w3
theorem St.Ok.word {s:St} (h:s.Ok) (i:Nat):U64 (s.word i):=by
 unfold St.word
 split
 ·exact h.o0
 ·split
  ·exact h.o1
  ·split
   ·exact h.o2
   ·exact h.o3
theorem zhT (a k:Nat) (ha:U64 a):(bits .and .u64 ((a:Int) / 2 ^ k) 1==1)=a.testBit k:=by
 unfold U64 at ha
 have e:((a:Int) / 2 ^ k)=((a / 2 ^ k:Nat):Int):=by rw[Int.natCast_ediv,Int.natCast_pow];rfl
 have hd:a / 2 ^ k<=a:=Nat.div_le_self _ _
 rw[e,show (1:Int)=((1:Nat):Int) from rfl,u64_and_nat _ _ (by omega) (by omega),Nat.and_one_is_mod,Nat.testBit_eq_decide_div_mod_eq,qZ]
 simp only[beq_iff_eq,qY]
 omega
def hv (a k:Nat):Nat:=a / 2 ^ k
theorem zhU (a:Nat):hv a 0=a:=by unfold hv;simp
theorem ztg (a k:Nat) (ha:U64 a):U64 (hv a k):=kI (Nat.div_le_self _ _) ha
theorem zri (a k:Nat) (ha:U64 a):IntKind.u64.wrap (((hv a k:Nat):Int).tdiv 2)=((hv a (k+1):Nat):Int):=by
 have h:=ztg a k ha
 unfold U64 at h
 have e:hv a (k+1)=hv a k / 2:=by unfold hv;rw[Nat.pow_succ,<-Nat.div_div_eq_div_mul]
 rw[e,xY,Int.tdiv_eq_ediv_of_nonneg (by omega)]
 omega
theorem zgb (a k:Nat) (ha:U64 a):IntKind.u64.wrap (((hv a k:Nat):Int) / 2)=((hv a (k+1):Nat):Int):=by
 rw[<-zri a k ha,Int.tdiv_eq_ediv_of_nonneg (by omega)]
theorem zhV (a k:Nat):(((hv a k:Nat):Int) % 2==1)=a.testBit k:=by
 rw[Nat.testBit_eq_decide_div_mod_eq,qZ]
 show _↔decide (hv a k % 2=1)=true
 simp only[beq_iff_eq,qY]
 omega
def St.or (s t:St):St:=⟨s.w0 ||| t.w0,s.w1 ||| t.w1,s.w2 ||| t.w2,s.w3 ||| t.w3⟩
def St.and (s t:St):St:=⟨s.w0 &&& t.w0,s.w1 &&& t.w1,s.w2 &&& t.w2,s.w3 &&& t.w3⟩
def M64:Nat:=18446744073709551615
def St.not (s:St):St:=⟨M64-s.w0,M64-s.w1,M64-s.w2,M64-s.w3⟩
theorem zko {a b:Nat} (ha:U64 a) (hb:U64 b):U64 (a ||| b):=Nat.or_lt_two_pow (n:=64) ha hb
theorem zhW {a b:Nat} (ha:U64 a):U64 (a &&& b):=kI Nat.and_le_left ha
theorem zhX {a:Nat}:U64 (M64-a):=by unfold U64 M64;omega
theorem St.or_ok {s t:St} (hs:s.Ok) (ht:t.Ok):(s.or t).Ok:=⟨zko hs.o0 ht.o0,zko hs.o1 ht.o1,zko hs.o2 ht.o2,zko hs.o3 ht.o3⟩
theorem St.and_ok {s t:St} (hs:s.Ok):(s.and t).Ok:=⟨zhW hs.o0,zhW hs.o1,zhW hs.o2,zhW hs.o3⟩
theorem St.not_ok {s:St}:s.not.Ok:=⟨zhX,zhX,zhX,zhX⟩
theorem zrj (s t:St) (i:Nat):(s.or t).word i=s.word i ||| t.word i:=by
 unfold St.word St.or;dsimp only;(repeat' split)<;>rfl
theorem zoE (s t:St) (i:Nat):(s.and t).word i=s.word i &&& t.word i:=by
 unfold St.word St.and;dsimp only;(repeat' split)<;>rfl
theorem zoF (s:St) (i:Nat):s.not.word i=M64-s.word i:=by
 unfold St.word St.not;dsimp only;(repeat' split)<;>rfl
theorem zhY (a k:Nat) (ha:U64 a) (hk:k<64):(M64-a).testBit k=!a.testBit k:=by
 have h:=Nat.testBit_two_pow_sub_succ (n:=64) (x:=a) ha k
 rw[show M64-a=2 ^ 64-(a+1) from by unfold M64;omega,h]
 simp[hk]
theorem zth (s t:St) (x:Nat):(s.or t).has x=(s.has x||t.has x):=by
 unfold St.has;rw[zrj,Nat.testBit_or]
theorem zrk (s t:St) (x:Nat):(s.and t).has x=(s.has x&&t.has x):=by
 unfold St.has;rw[zoE,Nat.testBit_and]
theorem zrl (s:St) (hs:s.Ok) (x:Nat):s.not.has x=!s.has x:=by
 unfold St.has;rw[zoF,zhY _ _ (hs.word _) (Nat.mod_lt _ (by omega))]
theorem zfx (a b:Nat) (ha:U64 a) (hb:U64 b):bits .or .u64 (a:Int) (b:Int)=((a ||| b:Nat):Int):=u64_or_nat a b ha hb
theorem zcx (a b:Nat) (ha:U64 a) (hb:U64 b):bits .and .u64 (a:Int) (b:Int)=((a &&& b:Nat):Int):=u64_and_nat a b ha hb
theorem zjw (a b:Nat) (ha:U64 a) (hb:U64 b):bits .andNot .u64 (a:Int) (b:Int)=((a &&& (M64-b):Nat):Int):=u64_andNot_nat a b ha hb
theorem zgc (a:Nat) (ha:U64 a):bits .xor .u64 IntKind.u64.max (a:Int)=((M64-a:Nat):Int):=by
 unfold U64 at ha
 show IntKind.u64.wrap ((BitVec.ofInt 64 IntKind.u64.max ^^^ BitVec.ofInt 64 (a:Int)).toNat:Int)=_
 have h1:BitVec.ofInt 64 IntKind.u64.max=BitVec.allOnes 64:=by decide
 rw[h1,BitVec.allOnes_xor,BitVec.toNat_not,ofInt_u64 a (by omega),xY]
 unfold M64
 omega
def At (w:World) (g:Nat) (t:TypeId) (cs:Array Value):Prop:=w.heap[g]?=some (.cells cs t (0,0))
section
variable {w w':World} {g:Nat} {t:TypeId} {cs:Array Value}
theorem At.cell (h:At w g t cs) (i:Nat):w.cell? ⟨g,i,none⟩=cs[i]?:=cell_of_row w g i cs t (0,0) h
theorem At.free (h:At w g t cs) (i:Nat):w.frozen? ⟨g,i,none⟩=false:=frozen_of_row w g i cs t h
theorem At.lt (h:At w g t cs):g<w.heap.size:=by
 by_cases hlt:g<w.heap.size
 ·exact hlt
 ·unfold At at h
  rw[xM (by omega)] at h
  cases h
theorem At.drew (h:At w g t cs):At w.drew g t cs:=h
theorem At.drewN (h:At w g t cs) (n:Nat):At (w.drewN n) g t cs:=h
theorem At.alloc (h:At w g t cs) (o:Obj):At (w.alloc o) g t cs:=(yL w o g h.lt).trans h
theorem At.new (w:World) (t:TypeId) (cs:Array Value):At (w.alloc (.cells cs t)) w.heap.size t cs:=heap_alloc_new w _
theorem At.set (h:At w g t cs) (i:Nat) (v:Value):At (w.setCell ⟨g,i,none⟩ v) g t (cs.setIfInBounds i v):=heap_setCell_same w g i cs t v h
theorem At.other (h:At w g t cs) {p:Addr} (hne:g≠p.block) (v:Value):At (w.setCell p v) g t cs:=(jL w p v g hne).trans h
theorem At.below {B:Nat} (h:At w g t cs) (hb:Below B w w') (hg:g<B):At w' g t cs:=(hb.block g hg).trans h
end
def c4 (a b c d:Nat):Array Value:=#[.int .u64 a,.int .u64 b,.int .u64 c,.int .u64 d]
theorem zaf {W w w0 w':World} (h:Below W.heap.size W w) (hb:Below w0.heap.size w0 w') (e:w0.heap=w.heap) (e1:w0.os=w.os) (e2:w0.tape=w.tape) (e3:w0.output=w.output):Below W.heap.size W w' :=
 Below.trans ⟨e1.trans h.os,e2.trans h.tape,e3.trans h.output,by rw[e];exact h.size,fun i hi=>by rw[e];exact h.block i hi⟩ (hb.mono (by rw[e];exact h.size))
theorem zbW {W w1:World} {B:Nat} (hb:Below B W w1) :
  (∀b o,b<B->w1.cell? ⟨b,o,none⟩=W.cell? ⟨b,o,none⟩)/\(∀b o,b<B->w1.frozen? ⟨b,o,none⟩=W.frozen? ⟨b,o,none⟩) :=
 ⟨fun b o h=>hb.cell (p:=⟨b,o,none⟩) h,fun b o h=>hb.frozen (p:=⟨b,o,none⟩) h⟩
def zdf (W:World) (A:Option Addr) (n:Nat) (l:List Nat):Prop :=
 n=l.length/\n<=9223372036854775807/\(∀(k:Nat) (h:k<l.length),l[k]<256) /\
 (0<n->∃b off,A=some ⟨b,off,none⟩/\b<W.heap.size/\∀(k:Nat) (h:k<l.length),W.cell? ⟨b,off+k,none⟩=some (.int .u8 l[k]))
theorem zdf.below {W w:World} {A:Option Addr} {n:Nat} {l:List Nat} (h:zdf W A n l) (hb:Below W.heap.size W w):zdf w A n l :=
 ⟨h.1,h.2.1,h.2.2.1,fun hn=>by
  obtain ⟨b,off,e,hlt,hc⟩:=h.2.2.2 hn
  exact ⟨b,off,e,qM hlt hb.size,fun k hk=>((zbW hb).1 b _ hlt).trans (hc k hk)⟩⟩
def St.eqb (s t:St):Bool:=(s.w0==t.w0)&&((s.w1==t.w1)&&((s.w2==t.w2)&&(s.w3==t.w3)))
theorem St.eqb_iff (s t:St):s.eqb t=true↔s=t:=by
 cases s;cases t
 simp[St.eqb]
theorem zoG (a b:Nat):((a:Int)==(b:Int))=(a==b):=by
 rw[qZ];simp only[beq_iff_eq];omega
theorem zhq {P:Program} {T E:TypeId} (hu:P.underlying T=some (.array 4 E)) (hi0:(P.info? E).isSome=true) (hE:P.underlying E=some (.int .u64)) (hc:P.cellsOf E=1) (d:Nat) (w:World) (s t:St) :
  (Op.equalIn (d+2) T (.agg #[.int .u64 s.w0,.int .u64 s.w1,.int .u64 s.w2,.int .u64 s.w3]) (.agg #[.int .u64 t.w0,.int .u64 t.w1,.int .u64 t.w2,.int .u64 t.w3])).run P w=.ok (s.eqb t) w:=by
 obtain ⟨i,hi⟩:=Option.isSome_iff_exists.1 hi0
 rw[show d+2=(d+1)+1 from rfl,run_equalIn_array w (d+1) _ _ hu hi,hc]
 have hr:List.range 4=[0,1,2,3]:=by decide
 rw[hr]
 have hp:∀(a0 a1 a2 a3:Value),(part E #[a0,a1,a2,a3] 0).run P w=.ok a0 w/\(part E #[a0,a1,a2,a3] 1).run P w=.ok a1 w /\
   (part E #[a0,a1,a2,a3] 2).run P w=.ok a2 w/\(part E #[a0,a1,a2,a3] 3).run P w=.ok a3 w:=by
  intro a0 a1 a2 a3
  refine ⟨?_,?_,?_,?_⟩<;>simp[part,isAgg,yI hE]
 obtain ⟨p0,p1,p2,p3⟩:=hp (.int .u64 s.w0) (.int .u64 s.w1) (.int .u64 s.w2) (.int .u64 s.w3)
 obtain ⟨q0,q1,q2,q3⟩:=hp (.int .u64 t.w0) (.int .u64 t.w1) (.int .u64 t.w2) (.int .u64 t.w3)
 have he:∀a b:Nat,(Op.equalIn (d+1) E (.int .u64 a) (.int .u64 b)).run P w=.ok (a==b) w:=by
  intro a b
  rw[run_equalIn_int w d E .u64 .u64 _ _ hE,<-zoG]
 have hs:∀(xs ys:Array Value) (k:Nat) (r:List Nat) (a b:Nat),(part E xs k).run P w=.ok (.int .u64 a) w->(part E ys k).run P w=.ok (.int .u64 b) w ->
   (Op.eqItems (d+1) E 1 xs ys (k::r)).run P w=bif a==b then (Op.eqItems (d+1) E 1 xs ys r).run P w else .ok false w:=by
  intro xs ys k r a b h1 h2
  simp only[Op.eqItems,jY,Nat.mul_one,h1,h2,he,jF]
  cases a==b<;>simp
 rw[hs _ _ 0 _ _ _ p0 q0,hs _ _ 1 _ _ _ p1 q1,hs _ _ 2 _ _ _ p2 q2,hs _ _ 3 _ _ _ p3 q3]
 have hn:∀xs ys:Array Value,(Op.eqItems (d+1) E 1 xs ys []).run P w=.ok true w:=fun xs ys=>by simp[Op.eqItems]
 rw[hn]
 unfold St.eqb
 cases s.w0==t.w0<;>cases s.w1==t.w1<;>cases s.w2==t.w2<;>cases s.w3==t.w3<;>rfl
end

section
open Go.RowKit
def arr (n:Nat) (g:Nat->Value):Array Value:=((List.range n).map g).toArray
theorem zhZ (n:Nat) (g:Nat->Value):(arr n g).size=n:=by simp[arr]
theorem zgs (n:Nat) (g:Nat->Value) (k:Nat) (h:k<n):(arr n g)[k]?=some (g k):=by simp[arr,h]
theorem zeL {n:Nat} {g h:Nat->Value} (e:∀k,k<n->g k=h k):arr n g=arr n h:=by
 unfold arr;congr 1;apply gL;intro k hk;exact e k (by simpa using hk)
theorem zms (n:Nat) (g:Nat->Value) (k:Nat) (v:Value):(arr n g).setIfInBounds k v=arr n (fun j=>if j=k then v else g j):=by
 apply Array.ext_getElem?
 intro i
 rw[Array.getElem?_setIfInBounds]
 by_cases hi:i<n
 ·rw[zgs _ _ i hi,zgs _ _ i hi,zhZ]
  by_cases e:k=i
  ·subst e;simp[hi]
  ·have e':¬i=k:=fun h=>e h.symm
   simp[e,e']
 ·have h1:∀g':Nat->Value,(arr n g')[i]?=none:=fun g'=>by rw[xM];rw[zhZ];omega
  rw[h1,h1,zhZ]
  by_cases e:k=i
  ·subst e;simp[hi]
  ·simp[e]
section
variable {w w' W:World} {g B:Nat} {t:TypeId} {cs old:Array Value}
theorem At.row (h:At w g t old) (cs:Array Value):At (w.setRow g cs) g t cs:=setRow_heap w g old cs t (0,0) h
theorem zdD (h:Below B W w) (hg:B<=g) (cs:Array Value):Below B W (w.setRow g cs) :=
 ⟨h.os,h.tape,h.output,by rw[setRow_size];exact h.size,fun i hi=>(setRow_other w g i cs (by omega)).trans (h.block i hi)⟩
theorem zjx (w:World) (g:Nat) (t:TypeId) {cs:Array Value} (h:g=w.heap.size):At (w.alloc (.cells cs t)) g t cs:=by
 subst h;exact At.new w t cs
end
section
variable {P:Program}
end
end

section
open Go.RowKit
theorem zaa {P:Program} {ops:Array Oper} {rest:List Oper} {o:Oper} {a:Act} {w:World} {Q:Exit->Act->World->Prop} (hw:Region.wanted o (yielded ops a.tmps)=true) (ty:TypeId) (x:Operand) (ho:o.op=.load ty x)
  (g:Nat) (hx:a.eval x=.pointer (some ⟨g,0,none⟩)) (t:TypeId) (cs:Array Value) (fr:Nat×Nat) (d:TypeDesc) (hg:w.heap[g]?=some (.cells cs t fr))
  (hu:P.underlying ty=some d) (hd:(match d with | .struct _ | .array _ _=>true | _=>false)=true) (hi:(P.info? ty).map (·.size)=some cs.size)
  (h:wpList P ops Q rest (a.put o.dst (.agg cs)) w):wpList P ops Q (o::rest) a w :=
 wpList_step fun K hK=>by rw[if_pos hw];exact wp_load_row ty x ho g hx t cs fr d hg hu hd hi (hK _ _ h)
theorem At.step {w w0 w':World} {g:Nat} {t:TypeId} {cs:Array Value} (h:At w g t cs) (hb:Below w0.heap.size w0 w') (e:w0.heap=w.heap):At w' g t cs:=by
 have h0:At w0 g t cs:=by unfold At at h ⊢;rw[e];exact h
 exact h0.below hb h0.lt
end

section
open Go.RowKit
inductive Tr where
 | node (kind:Int) (set:St) (A:Option Addr) (n c:Nat) (parts:List Tr) (lo hi:Int) (neg:Bool):Tr
def Tr.kind:Tr->Int | .node k _ _ _ _ _ _ _ _=>k
def Tr.set:Tr->St | .node _ s _ _ _ _ _ _ _=>s
def Tr.addr:Tr->Option Addr | .node _ _ A _ _ _ _ _ _=>A
def Tr.n:Tr->Nat | .node _ _ _ n _ _ _ _ _=>n
def Tr.cap:Tr->Nat | .node _ _ _ _ c _ _ _ _=>c
def Tr.parts:Tr->List Tr | .node _ _ _ _ _ p _ _ _=>p
def Tr.lo:Tr->Int | .node _ _ _ _ _ _ l _ _=>l
def Tr.hi:Tr->Int | .node _ _ _ _ _ _ _ h _=>h
def Tr.neg:Tr->Bool | .node _ _ _ _ _ _ _ _ g=>g
def Tr.cs (t:Tr):List Value:=[.int .i64 t.kind,.int .u64 t.set.w0,.int .u64 t.set.w1,.int .u64 t.set.w2,.int .u64 t.set.w3,.slice t.addr t.n t.cap,.int .i64 t.lo,.int .i64 t.hi,.bool t.neg]
theorem Tr.cs_length (t:Tr):t.cs.length=9:=rfl
def I64 (x:Int):Prop:=-9223372036854775808<=x/\x<=9223372036854775807
def Tr.In (w:World):Nat->Tr->Prop
 | 0,_=>False
 | k+1,t=>(t.set.Ok/\I64 t.kind/\I64 t.lo/\I64 t.hi)/\(t.n=t.parts.length/\t.n<=9223372036854775807)/\(0<t.n->∃b off,t.addr=some ⟨b,off,none⟩/\b<w.heap.size/\∀(j:Nat) (h:j<t.parts.length),w.rangeAt b (off+j*9) t.parts[j].cs) /\
  ∀(j:Nat) (h:j<t.parts.length),Tr.In w k t.parts[j]
theorem zaE {w w':World} {B b o:Nat} {cs:List Value} (h:w.rangeAt b o cs) (hb:b<w.heap.size) (hB:w.heap.size<=B) (hw:Below B w w'):w'.rangeAt b o cs:=fun j v hv=>by
 rw[(zbW hw).1 b (o+j) (by omega)];exact h j v hv
theorem Tr.In.below {w w':World} {B:Nat} (hB:w.heap.size<=B) (hw:Below B w w'):∀(k:Nat) (t:Tr),Tr.In w k t->Tr.In w' k t
 | 0,_,h=>h.elim
 | k+1,t,h=>by
  obtain ⟨h0,hn,hc,hp⟩:=h
  refine ⟨h0,hn,fun h0=>?_,fun j hj=>Tr.In.below hB hw k _ (hp j hj)⟩
  obtain ⟨b,off,e,hlt,hr⟩:=hc h0
  exact ⟨b,off,e,qM hlt hw.size,fun j hj=>zaE (hr j hj) hlt hB hw⟩
theorem Tr.In.next {w w':World} {k:Nat} {t:Tr} (h:Tr.In w k t) (hw:Below w.heap.size w w'):Tr.In w' k t:=Tr.In.below zqn hw k t h
theorem Tr.In.up {w:World}:∀(k:Nat) (t:Tr),Tr.In w k t->Tr.In w (k+1) t
 | 0,_,h=>h.elim
 | k+1,t,h=>by
  obtain ⟨h0,hn,hc,hp⟩:=h
  exact ⟨h0,hn,hc,fun j hj=>Tr.In.up k _ (hp j hj)⟩
theorem At.tr_cell {w:World} {g:Nat} {t:TypeId} {r:Tr} (h:At w g t r.cs.toArray) :
  w.cell? ⟨g,0,none⟩=some (.int .i64 r.kind)/\w.cell? ⟨g,5,none⟩=some (.slice r.addr r.n r.cap)/\w.cell? ⟨g,6,none⟩=some (.int .i64 r.lo)/\w.cell? ⟨g,7,none⟩=some (.int .i64 r.hi)/\w.cell? ⟨g,8,none⟩=some (.bool r.neg) :=
 ⟨At.cell h 0,At.cell h 5,At.cell h 6,At.cell h 7,At.cell h 8⟩
def zgd (l:List Int):Int:=l.foldl max 0
def zbj:Nat->Int->Tr->Int
 | 0,_,_=>0
 | k+1,m,t=>if m<1 then 1 else 1+zgd (t.parts.map (zbj k (m-1)))
theorem zmt (l:List Int) (x:Int):zgd (l++[x])=max (zgd l) x:=by unfold zgd;rw[List.foldl_append];rfl
theorem zmu (l:List Int) (m:Int) (h0:0<=m) (h:∀x∈l,x<=m):zgd l<=m:=by
 unfold zgd
 have:∀a:Int,a<=m->l.foldl max a<=m:=by
  induction l with
  | nil=>exact fun a ha=>ha
  | cons x r ih =>
   intro a ha
   rw[xS]
   exact ih (fun y hy=>h y (qX _ hy)) _ (by have:=h x (by simp);omega)
 exact this 0 h0
theorem zjy (l:List Int):0<=zgd l:=by
 unfold zgd
 have:∀a:Int,0<=a->0<=l.foldl max a:=by
  induction l with
  | nil=>exact fun a ha=>ha
  | cons x r ih=>intro a ha;rw[xS];exact ih _ (by omega)
 exact this 0 (gE _)
theorem zh0:∀(k:Nat) (m:Int) (t:Tr),0<=m->zbj k m t<=m+1
 | 0,m,_,h=>by show (0:Int)<=_;omega
 | k+1,m,t,h=>by
  show (if m<1 then 1 else 1+zgd _)<=m+1
  split
  ·omega
  ·have:=zmu (t.parts.map (zbj k (m-1))) m (by omega) (by
    intro x hx
    rw[yN] at hx
    obtain ⟨p,_,rfl⟩:=hx
    have:=zh0 k (m-1) p (by omega)
    omega)
   omega
theorem zoH (k:Nat) (m:Int) (t:Tr):0<=zbj k m t:=by
 cases k with
 | zero=>exact gE _
 | succ k =>
  show 0<=(if m<1 then 1 else 1+zgd _)
  have:=zjy (t.parts.map (zbj k (m-1)))
  split<;>omega
def zem (k:Nat) (m:Int) (t:Tr) (j:Nat):Int:=zgd ((t.parts.take j).map (zbj k m))
theorem zjz (k:Nat) (m:Int) (t:Tr):zem k m t 0=0:=rfl
theorem zjA (k:Nat) (m:Int) (t:Tr) (j:Nat) (h:j<t.parts.length):zem k m t (j+1)=max (zem k m t j) (zbj k m t.parts[j]):=by
 unfold zem;rw[qW h,jE,List.map_singleton,zmt]
theorem zlo (k:Nat) (m:Int) (t:Tr) (h:¬m<1):1+zem k (m-1) t t.parts.length=zbj (k+1) m t:=by
 unfold zem;rw[qQ];show _=(if m<1 then 1 else 1+zgd _);rw[if_neg h]
theorem zmv (k:Nat) (m:Int) (t:Tr) (j:Nat) (h:0<=m):zem k m t j<=m+1:=by
 refine zmu _ _ (by omega) fun x hx=>?_
 rw[yN] at hx
 obtain ⟨p,_,rfl⟩:=hx
 exact zh0 k m p h
theorem zmw (k:Nat) (m:Int) (t:Tr) (j:Nat):0<=zem k m t j:=zjy _
end

section
open Go.RowKit
theorem zaq {x y:Int} (h:x=y):(x==y)=true/\(x != y)=false:=⟨by rw[beq_iff_eq];exact h,by subst h;simp⟩
theorem zab {x y:Int} (h:¬x=y):(x==y)=false/\(x != y)=true:=⟨by rw[beq_eq_false_iff_ne];exact h,by rw[bne_iff_ne];exact h⟩
theorem At.tr_set {w:World} {g:Nat} {t:TypeId} {r:Tr} (h:At w g t r.cs.toArray) :
  w.cell? ⟨g,1,none⟩=some (.int .u64 r.set.w0)/\w.cell? ⟨g,2,none⟩=some (.int .u64 r.set.w1)/\w.cell? ⟨g,3,none⟩=some (.int .u64 r.set.w2)/\w.cell? ⟨g,4,none⟩=some (.int .u64 r.set.w3) :=
 ⟨At.cell h 1,At.cell h 2,At.cell h 3,At.cell h 4⟩
end

section
open Go.RowKit
def St.nil:St:=⟨0,0,0,0⟩
def zge (t:Tr):Int:=if t.kind=3\/t.kind=4\/t.kind=5 then (t.parts.length:Nat) else if t.kind=6\/t.kind=7\/t.kind=8\/t.kind=9 then 1 else 0
def zba (t:Tr):Prop:=0<=t.lo/\t.lo<=20/\(t.hi=-1\/(t.lo<=t.hi/\1<=t.hi/\t.hi<=20))
instance (t:Tr):Decidable (zba t):=by unfold zba;infer_instance
def zch (t:Tr):Bool:=decide ((0<=t.kind/\t.kind<=11)/\(t.parts.length:Int)=zge t/\(t.kind=2\/t.set.eqb St.nil=true)/\(t.kind=8\/t.kind=9\/t.neg=false)/\(t.kind=7\/(t.lo=0/\t.hi=0))/\(t.kind=7->zba t))
def zah:Nat->Tr->Bool
 | 0,_=>false
 | k+1,t=>zch t&&t.parts.all (zah k)
section
variable {t:Tr}
theorem zlp (h:t.kind<0\/11<t.kind):zch t=false:=qE (fun q=>by have:=q.1;omega)
theorem zeM (h:¬(t.parts.length:Int)=zge t):zch t=false:=qE (fun q=>h q.2.1)
theorem zeN (h2:¬t.kind=2) (h:t.set.eqb St.nil=false):zch t=false:=qE (fun q=>by rcases q.2.2.1 with q | q;exact h2 q;rw[h] at q;cases q)
theorem zeO (h8:¬t.kind=8) (h9:¬t.kind=9) (h:t.neg=true):zch t=false:=qE (fun q=>by rcases q.2.2.2.1 with q | q | q;exact h8 q;exact h9 q;rw[h] at q;cases q)
theorem zgt (h7:¬t.kind=7) (h:¬t.lo=0):zch t=false:=qE (fun q=>by rcases q.2.2.2.2.1 with q | q;exact h7 q;exact h q.1)
theorem zgu (h7:¬t.kind=7) (h:¬t.hi=0):zch t=false:=qE (fun q=>by rcases q.2.2.2.2.1 with q | q;exact h7 q;exact h q.2)
theorem zc5 (h7:t.kind=7) (h:¬zba t):zch t=false:=qE (fun q=>h (q.2.2.2.2.2 h7))
theorem zdg (h0:0<=t.kind/\t.kind<=11) (h1:(t.parts.length:Int)=zge t) (h2:t.kind=2\/t.set.eqb St.nil=true) (h3:t.kind=8\/t.kind=9\/t.neg=false) (h4:t.kind=7\/(t.lo=0/\t.hi=0)) (h5:t.kind=7->zba t):zch t=true :=
 qD ⟨h0,h1,h2,h3,h4,h5⟩
theorem zmx (h:t.kind=3\/t.kind=4\/t.kind=5):zge t=(t.parts.length:Nat):=by unfold zge;rw[if_pos h]
theorem zfy (h:t.kind=6\/t.kind=7\/t.kind=8\/t.kind=9):zge t=1:=by unfold zge;rw[if_neg (by omega),if_pos h]
theorem zgf (h1:¬(t.kind=3\/t.kind=4\/t.kind=5)) (h2:¬(t.kind=6\/t.kind=7\/t.kind=8\/t.kind=9)):zge t=0:=by unfold zge;rw[if_neg h1,if_neg h2]
theorem zaj {k:Nat} (h:zch t=false):zah (k+1) t=false:=by show (zch t&&_)=false;rw[h,yC]
theorem zcj {k j:Nat} (h:j<t.parts.length) (hs:zah k t.parts[j]=false):zah (k+1) t=false:=by
 have:t.parts.all (zah k)=false:=by rw[List.all_eq_false];exact ⟨_,qG h,by rw[hs];simp⟩
 show (zch t&&_)=false;rw[this,Bool.and_false]
def zbu (k:Nat) (t:Tr) (j:Nat):Bool:=(t.parts.take j).all (zah k)
theorem zbb (k:Nat):zbu k t 0=true:=rfl
theorem zbK {k j:Nat} (h:j<t.parts.length) (hj:zbu k t j=true) (hs:zah k t.parts[j]=true):zbu k t (j+1)=true:=by
 unfold zbu at hj ⊢;rw[qW h,xT,hj];simp[hs]
theorem zbC {k:Nat} (ho:zch t=true) (hs:zbu k t t.parts.length=true):zah (k+1) t=true:=by
 show (zch t&&_)=true
 unfold zbu at hs
 rw[qQ] at hs
 rw[ho,hs];rfl
end
theorem za6 {p:Prop} [Decidable p] (h:p):decide p=true:=qD h
theorem za0 {p:Prop} [Decidable p] (h:¬p):decide p=false:=qE h
end

section
open Go.RowKit
theorem zlq {w w':World} (hb:Below w.heap.size w w'):w.grownBy w' none:=⟨hb.os,hb.tape,hb.output,hb.size,fun i hi _=>hb.block i hi⟩
def zeP:Nat->Tr->Prop
 | 0,_=>True
 | k+1,t=>t.parts.length<=2000/\∀p∈t.parts,zeP k p
theorem zjB {k j:Nat} {t:Tr} (h:zah (k+1) t=true) (hj:j<t.parts.length):zah k t.parts[j]=true:=by
 have h':(zch t&&t.parts.all (zah k))=true:=h
 rw[qR] at h'
 exact List.all_eq_true.1 h'.2 _ (qG hj)
theorem zck {k:Nat} {t:Tr} (h:zah (k+1) t=true):zch t=true:=by
 have h':(zch t&&t.parts.all (zah k))=true:=h
 rw[qR] at h'
 exact h'.1
theorem zdZ {k:Nat} {t:Tr} (h:zah (k+1) t=true) (hk:t.kind=6\/t.kind=7\/t.kind=8\/t.kind=9):t.parts.length=1:=by
 have q:=(jB (zck h)).2.1
 rw[zfy hk] at q
 omega
theorem ziz {k:Nat} {t:Tr} (h:zah (k+1) t=true) (hk:t.kind=7):zba t:=(jB (zck h)).2.2.2.2.2 hk
theorem zeQ {α:Type} {d:α} (xs:List α) (h:0<xs.length:=by simp):xs.headD d=xs[0]:=by cases xs with | nil=>simp at h | cons x xs=>rfl
theorem At.tr_cells {w:World} {g:Nat} {y:TypeId} {t:Tr} (h:At w g y t.cs.toArray):w.cell? ⟨g,0,none⟩=some (.int .i64 t.kind)/\w.cell? ⟨g,1,none⟩=some (.int .u64 t.set.w0)/\w.cell? ⟨g,2,none⟩=some (.int .u64 t.set.w1)/\w.cell? ⟨g,3,none⟩=some (.int .u64 t.set.w2)/\w.cell? ⟨g,4,none⟩=some (.int .u64 t.set.w3)/\w.cell? ⟨g,5,none⟩=some (.slice t.addr t.n t.cap)/\w.cell? ⟨g,6,none⟩=some (.int .i64 t.lo)/\w.cell? ⟨g,7,none⟩=some (.int .i64 t.hi)/\w.cell? ⟨g,8,none⟩=some (.bool t.neg) :=
 ⟨At.cell h 0,At.cell h 1,At.cell h 2,At.cell h 3,At.cell h 4,At.cell h 5,At.cell h 6,At.cell h 7,At.cell h 8⟩
theorem At.grown' {w w':World} {g:Nat} {t:TypeId} {cs:Array Value} {row:Option Nat} (h:At w g t cs) (hg:w.grownBy w' row) (hr:some g≠row):At w' g t cs:=(hg.block g h.lt hr).trans h
theorem ziA {W w w':World} {B:Nat} {row:Option Nat} (h:Below B W w) (hs:B<=w.heap.size) (hg:w.grownBy w' row) (hr:∀k,row=some k->B<=k):Below B W w' :=
 ⟨hg.os.trans h.os,hg.tape.trans h.tape,hg.output.trans h.output,qH h.size hg.size,fun i hi=>(hg.block i (by omega) (fun e=>by have:=hr i e.symm;omega)).trans (h.block i hi)⟩
end

section
open Go.RowKit
def zmy (r:Nat->Nat) (n:Nat):Array Value:=arr n (fun i=>.slice (some ⟨r i,0,none⟩) n n)
def zbX (f:Nat->Bool) (n:Nat):Array Value:=arr n (fun j=>.bool (f j))
def zcy (r:Nat->Nat) (n k:Nat):Array Value:=arr n (fun i=>if i<k then .slice (some ⟨r i,0,none⟩) n n else .slice none 0 0)
theorem zh1 (r:Nat->Nat) (n:Nat):zcy r n 0=madeCells #[.slice none 0 0] n:=by
 unfold zcy arr madeCells
 apply Array.ext_getElem?
 intro i
 by_cases hi:i<n<;>simp[hi,Nat.mod_one]
theorem ziB (r:Nat->Nat) (n:Nat):zcy r n n=zmy r n:=zeL (fun k hk=>by rw[if_pos hk])
theorem ziC (r:Nat->Nat) (n k:Nat):(zcy r n k).setIfInBounds k (.slice (some ⟨r k,0,none⟩) n n)=zcy r n (k+1):=by
 unfold zcy
 rw[zms]
 apply zeL
 intro j _
 by_cases e:j=k
 ·subst e;rw[if_pos rfl,if_pos (by omega)]
 ·rw[if_neg e]
  by_cases h:j<k
  ·rw[if_pos h,if_pos (by omega)]
  ·rw[if_neg h,if_neg (by omega)]
theorem ziD (n:Nat):zbX (fun _=>false) n=madeCells #[.bool false] n:=by
 unfold zbX arr madeCells
 apply Array.ext_getElem?
 intro i
 by_cases hi:i<n<;>simp[hi,Nat.mod_one]
theorem zjC (f:Nat->Bool) (n k:Nat) (b:Bool):(zbX f n).setIfInBounds k (.bool b)=zbX (fun j=>if j=k then b else f j) n:=by
 unfold zbX
 rw[zms]
 apply zeL
 intro j _
 by_cases e:j=k
 ·simp[e]
 ·simp[e]
theorem zdh {f g:Nat->Bool} {n:Nat} (h:∀j,j<n->f j=g j):zbX f n=zbX g n:=zeL (fun j hj=>by rw[h j hj])
structure zau (w:World) (E B:TypeId) (base g n:Nat) (r:Nat->Nat) (f:Nat->Nat->Bool):Prop where
 top:At w g E (zmy r n)
 low:base<=g
 row:∀i,i<n->At w (r i) B (zbX (f i) n)
 rlow:∀i,i<n->base<=r i/\r i≠g
 apart:∀i j,i<n->j<n->i≠j->r i≠r j
section
variable {w w' w0:World} {E B:TypeId} {base g n:Nat} {r:Nat->Nat} {f:Nat->Nat->Bool}
theorem zau.same (h:zau w E B base g n r f) (e:w0.heap=w.heap):zau w0 E B base g n r f :=
 ⟨by have:=h.top;unfold At at this ⊢;rw[e];exact this,h.low,fun i hi=>by have:=h.row i hi;unfold At at this ⊢;rw[e];exact this,h.rlow,h.apart⟩
theorem zau.next (h:zau w E B base g n r f) (hb:Below w.heap.size w w'):zau w' E B base g n r f :=
 ⟨h.top.below hb h.top.lt,h.low,fun i hi=>(h.row i hi).below hb (h.row i hi).lt,h.rlow,h.apart⟩
theorem zau.drew (h:zau w E B base g n r f):zau w.drew E B base g n r f:=h.same (heap_drew w)
theorem zau.lower {base':Nat} (h:zau w E B base g n r f) (hb:base'<=base):zau w E B base' g n r f :=
 ⟨h.top,qH hb h.low,h.row,fun i hi=>⟨qH hb (h.rlow i hi).1,(h.rlow i hi).2⟩,h.apart⟩
theorem zau.congr {f':Nat->Nat->Bool} (h:zau w E B base g n r f) (e:∀i j,i<n->j<n->f i j=f' i j):zau w E B base g n r f' :=
 ⟨h.top,h.low,fun i hi=>by rw[<-zdh (e i · hi)];exact h.row i hi,h.rlow,h.apart⟩
theorem zau.cellTop (h:zau w E B base g n r f) {i:Nat} (hi:i<n):w.cell? ⟨g,i,none⟩=some (.slice (some ⟨r i,0,none⟩) n n):=(h.top.cell i).trans (zgs _ _ i hi)
theorem zau.cellRow (h:zau w E B base g n r f) {i j:Nat} (hi:i<n) (hj:j<n):w.cell? ⟨r i,j,none⟩=some (.bool (f i j)):=((h.row i hi).cell j).trans (zgs _ _ j hj)
theorem zau.freeRow (h:zau w E B base g n r f) {i:Nat} (hi:i<n) (j:Nat):w.frozen? ⟨r i,j,none⟩=false:=(h.row i hi).free j
theorem zau.put (h:zau w E B base g n r f) {i:Nat} (j:Nat) (hi:i<n) (b:Bool):zau (w.setCell ⟨r i,j,none⟩ (.bool b)) E B base g n r (fun i' j'=>if i'=i/\j'=j then b else f i' j') :=
 ⟨h.top.other (fun e=>(h.rlow i hi).2 e.symm) _,h.low,fun i' hi'=>by
  by_cases e:i'=i
  ·subst e
   have h1:=(h.row i' hi).set j (.bool b)
   rw[zjC] at h1
   have h2:zbX (fun j'=>if i'=i'/\j'=j then b else f i' j') n=zbX (fun j'=>if j'=j then b else f i' j') n:=zdh (fun j' _=>by simp)
   rw[h2];exact h1
  ·have h1:=(h.row i' hi').other (p:=⟨r i,j,none⟩) (h.apart i' i hi' hi e) (.bool b)
   have h2:zbX (fun j'=>if i'=i/\j'=j then b else f i' j') n=zbX (f i') n:=zdh (fun j' _=>by simp[e])
   rw[h2];exact h1,h.rlow,h.apart⟩
def zmz (w:World) (E B:TypeId) (g n:Nat) (f:Nat->Nat->Bool):Prop:=∃r,zau w E B 0 g n r f
theorem zmz.next (h:zmz w E B g n f) (hb:Below w.heap.size w w'):zmz w' E B g n f:=by obtain ⟨r,h⟩:=h;exact ⟨r,h.next hb⟩
end
def zbk (F:Nat->Nat->Bool) (i j:Nat) (i' j':Nat):Bool:=if i'<i\/(i'=i/\j'<j) then F i' j' else false
section
variable {w:World} {E B:TypeId} {base g n:Nat} {r:Nat->Nat} {F:Nat->Nat->Bool} {i j:Nat}
theorem zau.fillStart (h:zau w E B base g n r (fun _ _=>false)):zau w E B base g n r (zbk F 0 0):=h.congr (fun i j _ _=>by simp[zbk])
theorem zau.fillStep (h:zau w E B base g n r (zbk F i j)) (hi:i<n) {v:Bool} (hv:v=F i j):zau (w.setCell ⟨r i,j,none⟩ (.bool v)) E B base g n r (zbk F i (j+1)) :=
 (h.put j hi v).congr (fun i' j' _ _=>by
  unfold zbk
  by_cases e:i'=i/\j'=j
  ·obtain ⟨rfl,rfl⟩:=e
   simp[hv]
  ·rw[if_neg e]
   by_cases c:i'<i\/(i'=i/\j'<j)
   ·rw[if_pos c,if_pos (by omega)]
   ·rw[if_neg c,if_neg (by omega)])
theorem zau.fillSkip (h:zau w E B base g n r (zbk F i 0)) (hF:∀j',j'<j->F i j'=false):zau w E B base g n r (zbk F i j):=h.congr (fun i' j' _ _=>by
 unfold zbk
 by_cases c:i'<i
 ·rw[if_pos (by omega),if_pos (by omega)]
 ·rw[if_neg (by omega)]
  by_cases c2:i'=i/\j'<j
  ·obtain ⟨rfl,h2⟩:=c2
   rw[if_pos (by omega),hF j' h2]
  ·rw[if_neg (by omega)])
theorem zau.fillRow (h:zau w E B base g n r (zbk F i n)):zau w E B base g n r (zbk F (i+1) 0):=h.congr (fun i' j' _ hj=>by
 unfold zbk
 by_cases c:i'<i\/(i'=i/\j'<n)
 ·rw[if_pos c,if_pos (by omega)]
 ·rw[if_neg c,if_neg (by omega)])
theorem zau.fillEnd (h:zau w E B base g n r (zbk F n 0)):zau w E B base g n r F:=h.congr (fun i' j' hi _=>by
 unfold zbk;rw[if_pos (by omega)])
end
end

section
open Go.RowKit
theorem zoI:(Tryz.prog.info? 41).map (fun i=>(i.zero,i.size,i.bytes))=some (some (.slice none 0 0),1,24):=by kernel_rfl
theorem zmA:(Tryz.prog.info? 4).map (fun i=>(i.zero,i.size,i.bytes))=some (some (.bool false),1,1):=by kernel_rfl
theorem zoJ (n:Nat) (hn:n<=1000) (w:World):(Instr.makeSlice 36 (.int .i64 (n:Int)) (.int .i64 (n:Int))).run Tryz.prog w=.ok (.slice (some ⟨w.heap.size,0,none⟩) n n) (w.alloc (.cells (zcy (fun i=>w.heap.size+1+i) n 0) 41)):=by
 rw[zh1]
 exact run_make_row' 36 41 (.slice none 0 0) 24 Tryz.underlying36 zoI rfl .i64 .i64 n (by omega) (by omega) w
theorem zoK (n:Nat) (hn:n<=1000) (w:World):(Instr.makeSlice 41 (.int .i64 (n:Int)) (.int .i64 (n:Int))).run Tryz.prog w=.ok (.slice (some ⟨w.heap.size,0,none⟩) n n) (w.alloc (.cells (zbX (fun _=>false) n) 4)):=by
 rw[ziD]
 exact run_make_row' 41 4 (.bool false) 1 Tryz.underlying41 zmA rfl .i64 .i64 n (by omega) (by omega) w
theorem zcQ (n:Nat) (hn:n<=1000) (w:World) :
  Calls Tryz.prog 28 #[.int .i64 n] w fun e w'=>e=.returned (.slice (some ⟨w.heap.size,0,none⟩) n n)/\zau w' 41 4 w.heap.size w.heap.size n (fun i=>w.heap.size+1+i) (fun _ _=>false)/\Below w.heap.size w w':=by
 have hm1:=zoJ n hn
 have hm2:=zoK n hn
 go_enter Tryz.func28,Tryz.ntmps28
 go_wp2_with fail
 clear hm1
 go_loopw [9] (fun i wr=>∃k:Nat,k<=n/\i=.int .i64 k/\wr.heap.size=w.heap.size+1+k/\Hid (At wr w.heap.size 41 (zcy (fun i=>w.heap.size+1+i) n k))/\Hid (∀i,i<k->At wr (w.heap.size+1+i) 4 (zbX (fun _=>false) n))/\Hid (Below w.heap.size w wr)) (fun i _=>n-(intOf i).toNat)
 case atStart=>exact ⟨0,qK _,rfl,by simp,zqh (At.new _ _ _),zqh (fun i hi=>absurd hi (jD _)),zqh (zqb)⟩
 case round =>
  obtain ⟨k,hk,rfl,hsz,hT,hR,hB⟩:=hrel
  by_cases hlt:k<n
  ·have hcell:=hT.out.cell k
   unfold zcy at hcell
   rw[zgs _ _ k hlt,if_neg (jM k)] at hcell
   have hfree:=hT.out.free k
   have hgl:=hT.out.lt
   have HSz:=zqh hsz
   clear hsz
   have hkz:(0:Int)<=(k:Int):=by omega
   have hkn:(k:Int)<(n:Int):=by omega
   go_wp2_with fail
   refine ⟨⟨k+1,by omega,by go_num,?_,?_,?_,?_⟩,by simp[intOf];omega⟩
   ·have:=HSz.out;simp;omega
   ·have h:=(hT.out.set k (.slice (some ⟨wr.heap.size,0,none⟩) n n)).alloc (.cells (zbX (fun _=>false) n) 4)
    rw[show wr.heap.size=(fun i=>w.heap.size+1+i) k from HSz.out,ziC] at h
    have e:wr.heap.size=w.heap.size+1+k:=HSz.out
    rw[e];exact zqh h
   ·refine zqh (fun i hi=>?_)
    by_cases e:i=k
    ·subst e
     exact zjx _ _ _ (by have:=HSz.out;simp;omega)
    ·exact ((hR.out i (by omega)).other (by dsimp only;omega) _).alloc _
   ·exact zqh ((hB.out.setCell (by dsimp only;omega) _).alloc (by have:=hB.out.size;simp;omega) _)
  ·obtain rfl:k=n:=by omega
   have ht:=hT.out
   rw[ziB] at ht
   have HT:=zqh ht
   clear ht hsz
   go_wp2_with fail
   go_ret
   exact ⟨rfl,⟨HT.out,qL _,fun i hi=>hR.out i hi,fun i hi=>⟨by omega,by omega⟩,fun i j _ _ h=>by omega⟩,hB.out⟩
def zcq (w:World) (n:Nat) (f:Nat->Nat->Bool) (e:Ending) (w':World):Prop:=∃g r,e=.returned (.slice (some ⟨g,0,none⟩) n n)/\zau w' 41 4 w.heap.size g n r f/\Below w.heap.size w w'
abbrev TIn (w:World) (g n:Nat) (f:Nat->Nat->Bool):Prop:=zmz w 41 4 g n f
end
end Go.Proofs.YtdmodhnhldbpnaaGreat
