/- Joined: Words, Cl, Row, Tr, TrSize, Same. -/
import Derived.WalkKit
import Derived.WalkSpells
import Derived.WalkLawsBesides
import Derived.Laws.BitsAllLaws
import Derived.Lib.Hide
import Derived.ChangeKeysEq
import Derived.Laws.StructEq
import Derived.Deep.MidRow
/- Plain facts on sets of four words: which byte a set has, and what the words of "or", "and", "without" and "not" are. No program is named here. -/
namespace Go.Proofs.YtgmpfnfomgadeaaGreat
open Go.RowKit
def U64 (n:Nat):Prop:=n<18446744073709551616
structure St where
  w0:Nat
  w1:Nat
  w2:Nat
  w3:Nat
def St.word (s:St) (i:Nat):Nat:=if i=0 then s.w0 else if i=1 then s.w1 else if i=2 then s.w2 else s.w3
def St.has (s:St) (x:Nat):Bool:=(s.word (x / 64)).testBit (x % 64)
structure St.Ok (s:St):Prop where
  o0:U64 s.w0
  o1:U64 s.w1
  o2:U64 s.w2
  o3:U64 s.w3
theorem St.Ok.word {s:St} (h:s.Ok) (i:Nat):U64 (s.word i):=by
  unfold St.word
  split
  · exact h.o0
  · split
    · exact h.o1
    · split
      · exact h.o2
      · exact h.o3
def sv (s:St):Value:=.agg #[.int .u64 s.w0,.int .u64 s.w1,.int .u64 s.w2,.int .u64 s.w3]
def hv (a k:Nat):Nat:=a / 2 ^ k
theorem hv_zero (a:Nat):hv a 0=a:=by unfold hv;simp
theorem hv_u64 (a k:Nat) (ha:U64 a):U64 (hv a k):=Nat.lt_of_le_of_lt (Nat.div_le_self _ _) ha
theorem hv_half (a k:Nat) (ha:U64 a):IntKind.u64.wrap (((hv a k:Nat):Int).tdiv 2)=((hv a (k+1):Nat):Int):=by
  have h:=hv_u64 a k ha
  unfold U64 at h
  have e:hv a (k+1)=hv a k / 2:=by unfold hv;rw[Nat.pow_succ,←Nat.div_div_eq_div_mul]
  rw[e,IntKind.wrap_u64,Int.tdiv_eq_ediv_of_nonneg (by omega)]
  omega
theorem hv_half' (a k:Nat) (ha:U64 a):IntKind.u64.wrap (((hv a k:Nat):Int) / 2)=((hv a (k+1):Nat):Int):=by
  rw[←hv_half a k ha,Int.tdiv_eq_ediv_of_nonneg (by omega)]
theorem hv_bit' (a k:Nat):(((hv a k:Nat):Int) % 2==1)=a.testBit k:=by
  rw[Nat.testBit_eq_decide_div_mod_eq,Bool.eq_iff_iff]
  show _↔decide (hv a k % 2=1)=true
  simp only[beq_iff_eq,decide_eq_true_eq]
  omega
def St.or (s t:St):St:=⟨s.w0 ||| t.w0,s.w1 ||| t.w1,s.w2 ||| t.w2,s.w3 ||| t.w3⟩
def St.and (s t:St):St:=⟨s.w0 &&& t.w0,s.w1 &&& t.w1,s.w2 &&& t.w2,s.w3 &&& t.w3⟩
def M64:Nat:=18446744073709551615
def St.sub (s t:St):St:=⟨s.w0 &&& (M64-t.w0),s.w1 &&& (M64-t.w1),s.w2 &&& (M64-t.w2),s.w3 &&& (M64-t.w3)⟩
def St.not (s:St):St:=⟨M64-s.w0,M64-s.w1,M64-s.w2,M64-s.w3⟩
theorem or_u64 {a b:Nat} (ha:U64 a) (hb:U64 b):U64 (a ||| b):=Nat.or_lt_two_pow (n:=64) ha hb
theorem and_u64 {a b:Nat} (ha:U64 a):U64 (a &&& b):=Nat.lt_of_le_of_lt Nat.and_le_left ha
theorem not_u64 {a:Nat}:U64 (M64-a):=by unfold U64 M64;omega
theorem St.or_ok {s t:St} (hs:s.Ok) (ht:t.Ok):(s.or t).Ok:=⟨or_u64 hs.o0 ht.o0,or_u64 hs.o1 ht.o1,or_u64 hs.o2 ht.o2,or_u64 hs.o3 ht.o3⟩
theorem St.and_ok {s t:St} (hs:s.Ok):(s.and t).Ok:=⟨and_u64 hs.o0,and_u64 hs.o1,and_u64 hs.o2,and_u64 hs.o3⟩
theorem St.not_ok {s:St}:s.not.Ok:=⟨not_u64,not_u64,not_u64,not_u64⟩
theorem word_or (s t:St) (i:Nat):(s.or t).word i=s.word i ||| t.word i:=by
  unfold St.word St.or;dsimp only;(repeat' split)<;>rfl
theorem word_and (s t:St) (i:Nat):(s.and t).word i=s.word i &&& t.word i:=by
  unfold St.word St.and;dsimp only;(repeat' split)<;>rfl
theorem word_not (s:St) (i:Nat):s.not.word i=M64-s.word i:=by
  unfold St.word St.not;dsimp only;(repeat' split)<;>rfl
theorem testBit_compl (a k:Nat) (ha:U64 a) (hk:k<64):(M64-a).testBit k=!a.testBit k:=by
  have h:=Nat.testBit_two_pow_sub_succ (n:=64) (x:=a) ha k
  rw[show M64-a=2 ^ 64-(a+1) from by unfold M64;omega,h]
  simp[hk]
theorem has_or (s t:St) (x:Nat):(s.or t).has x=(s.has x||t.has x):=by
  unfold St.has;rw[word_or,Nat.testBit_or]
theorem has_and (s t:St) (x:Nat):(s.and t).has x=(s.has x&&t.has x):=by
  unfold St.has;rw[word_and,Nat.testBit_and]
theorem has_not (s:St) (hs:s.Ok) (x:Nat):s.not.has x=!s.has x:=by
  unfold St.has;rw[word_not,testBit_compl _ _ (hs.word _) (Nat.mod_lt _ (by omega))]
theorem bits_or (a b:Nat) (ha:U64 a) (hb:U64 b):bits .or .u64 (a:Int) (b:Int)=((a ||| b:Nat):Int):=u64_or_nat a b ha hb
theorem bits_and (a b:Nat) (ha:U64 a) (hb:U64 b):bits .and .u64 (a:Int) (b:Int)=((a &&& b:Nat):Int):=u64_and_nat a b ha hb
theorem bits_not (a:Nat) (ha:U64 a):bits .xor .u64 IntKind.u64.max (a:Int)=((M64-a:Nat):Int):=by
  unfold U64 at ha
  show IntKind.u64.wrap ((BitVec.ofInt 64 IntKind.u64.max ^^^ BitVec.ofInt 64 (a:Int)).toNat:Int)=_
  have h1:BitVec.ofInt 64 IntKind.u64.max=BitVec.allOnes 64:=by decide
  rw[h1,BitVec.allOnes_xor,BitVec.toNat_not,ofInt_u64 a (by omega),IntKind.wrap_u64]
  unfold M64
  omega
def pw (r:Nat):Nat:=2 ^ r
def St.put (s:St) (b:Nat):St :=
  if b / 64=0 then ⟨s.w0 ||| pw (b % 64),s.w1,s.w2,s.w3⟩
  else if b / 64=1 then ⟨s.w0,s.w1 ||| pw (b % 64),s.w2,s.w3⟩
  else if b / 64=2 then ⟨s.w0,s.w1,s.w2 ||| pw (b % 64),s.w3⟩
  else ⟨s.w0,s.w1,s.w2,s.w3 ||| pw (b % 64)⟩
theorem St.ext_has {s t:St} (hs:s.Ok) (ht:t.Ok) (h:∀x,x<256→s.has x=t.has x):s=t:=by
  have hw:∀i,i<4→s.word i=t.word i:=by
    intro i hi
    apply Nat.eq_of_testBit_eq
    intro j
    by_cases hj:j<64
    · have:=h (64*i+j) (by omega)
      unfold St.has at this
      rwa [show (64*i+j) / 64=i from by omega,show (64*i+j) % 64=j from by omega] at this
    · have h1:=hs.word i
      have h2:=ht.word i
      have hp:18446744073709551616≤2 ^ j:=by
        have:(2:Nat) ^ 64≤2 ^ j:=Nat.pow_le_pow_right (by omega) (by omega)
        exact this
      rw[Nat.testBit_lt_two_pow (Nat.lt_of_lt_of_le h1 hp),Nat.testBit_lt_two_pow (Nat.lt_of_lt_of_le h2 hp)]
  have e0:=hw 0 (by omega)
  have e1:=hw 1 (by omega)
  have e2:=hw 2 (by omega)
  have e3:=hw 3 (by omega)
  simp[St.word] at e0 e1 e2 e3
  cases s;cases t
  simp_all
def At (w:World) (g:Nat) (t:TypeId) (cs:Array Value):Prop:=w.heap[g]?=some (.cells cs t (0,0))
section
variable {w w':World} {g:Nat} {t:TypeId} {cs:Array Value}
theorem At.cell (h:At w g t cs) (i:Nat):w.cell? ⟨g,i,none⟩=cs[i]?:=cell_of_row w g i cs t (0,0) h
theorem At.free (h:At w g t cs) (i:Nat):w.frozen? ⟨g,i,none⟩=false:=frozen_of_row w g i cs t h
theorem At.lt (h:At w g t cs):g<w.heap.size:=by
  by_cases hlt:g<w.heap.size
  · exact hlt
  · unfold At at h
    rw[Array.getElem?_eq_none (by omega)] at h
    cases h
theorem At.drew (h:At w g t cs):At w.drew g t cs:=h
theorem At.drewN (h:At w g t cs) (n:Nat):At (w.drewN n) g t cs:=h
theorem At.alloc (h:At w g t cs) (o:Obj):At (w.alloc o) g t cs:=(Below.heap_alloc w o g h.lt).trans h
theorem At.new (w:World) (t:TypeId) (cs:Array Value):At (w.alloc (.cells cs t)) w.heap.size t cs:=heap_alloc_new w _
theorem At.set (h:At w g t cs) (i:Nat) (v:Value):At (w.setCell ⟨g,i,none⟩ v) g t (cs.setIfInBounds i v):=heap_setCell_same w g i cs t v h
theorem At.other (h:At w g t cs) {p:Addr} (hne:g≠p.block) (v:Value):At (w.setCell p v) g t cs:=(Below.heap_setCell w p v g hne).trans h
theorem At.below {B:Nat} (h:At w g t cs) (hb:Below B w w') (hg:g<B):At w' g t cs:=(hb.block g hg).trans h
end
def c4 (a b c d:Nat):Array Value:=#[.int .u64 a,.int .u64 b,.int .u64 c,.int .u64 d]
def SetAt (w:World) (g:Nat) (t:TypeId) (s:St):Prop:=At w g t #[.int .u64 s.w0,.int .u64 s.w1,.int .u64 s.w2,.int .u64 s.w3]
theorem SetAt.cells {w:World} {g:Nat} {t:TypeId} {s:St} (h:SetAt w g t s) :
    w.cell? ⟨g,0,none⟩=some (.int .u64 s.w0)∧w.cell? ⟨g,1,none⟩=some (.int .u64 s.w1)∧w.cell? ⟨g,2,none⟩=some (.int .u64 s.w2)∧w.cell? ⟨g,3,none⟩=some (.int .u64 s.w3) :=
  ⟨At.cell h 0,At.cell h 1,At.cell h 2,At.cell h 3⟩
theorem SetAt.store {w:World} {g:Nat} {t:TypeId} {s:St} (h:SetAt w g t s) (u:St) :
    SetAt ((((w.setCell ⟨g,0,none⟩ (.int .u64 u.w0)).setCell ⟨g,1,none⟩ (.int .u64 u.w1)).setCell ⟨g,2,none⟩ (.int .u64 u.w2)).setCell ⟨g,3,none⟩ (.int .u64 u.w3)) g t u :=
  (((At.set h 0 _).set 1 _).set 2 _).set 3 _
theorem SetAt.below {B:Nat} {w w':World} {g:Nat} {t:TypeId} {s:St} (h:SetAt w g t s) (hb:Below B w w') (hg:g<B):SetAt w' g t s:=At.below h hb hg
theorem SetAt.lt {w:World} {g:Nat} {t:TypeId} {s:St} (h:SetAt w g t s):g<w.heap.size:=At.lt h
theorem SetAt.next {w w':World} {g:Nat} {t:TypeId} {s:St} (h:SetAt w g t s) (hb:Below w.heap.size w w'):SetAt w' g t s:=At.below h hb h.lt
theorem SetAt.other {w:World} {g:Nat} {t:TypeId} {s:St} (h:SetAt w g t s) {g':Nat} (hne:g≠g') (u:St) :
    SetAt ((((w.setCell ⟨g',0,none⟩ (.int .u64 u.w0)).setCell ⟨g',1,none⟩ (.int .u64 u.w1)).setCell ⟨g',2,none⟩ (.int .u64 u.w2)).setCell ⟨g',3,none⟩ (.int .u64 u.w3)) g t s :=
  At.other (At.other (At.other (At.other h hne _) hne _) hne _) hne _
theorem SetAt.drew {w:World} {g:Nat} {t:TypeId} {s:St} (h:SetAt w g t s):SetAt w.drew g t s:=h
theorem SetAt.drewN {w:World} {g:Nat} {t:TypeId} {s:St} (h:SetAt w g t s) (n:Nat):SetAt (w.drewN n) g t s:=h
theorem SetAt.alloc {w:World} {g:Nat} {t:TypeId} {s:St} (h:SetAt w g t s) (o:Obj):SetAt (w.alloc o) g t s:=At.alloc h o
theorem SetAt.new (w:World) (t:TypeId) (s:St):SetAt (w.alloc (.cells #[.int .u64 s.w0,.int .u64 s.w1,.int .u64 s.w2,.int .u64 s.w3] t)) w.heap.size t s:=At.new _ _ _
theorem SetAt.step {w w0 w':World} {g:Nat} {t:TypeId} {s:St} (h:SetAt w g t s) (hb:Below w0.heap.size w0 w') (e:w0.heap=w.heap):SetAt w' g t s:=by
  have h0:SetAt w0 g t s:=by unfold SetAt At at h ⊢;rw[e];exact h
  exact h0.next hb
theorem below_step {W w w0 w':World} (h:Below W.heap.size W w) (hb:Below w0.heap.size w0 w') (e:w0.heap=w.heap) (e1:w0.os=w.os) (e2:w0.tape=w.tape) (e3:w0.output=w.output):Below W.heap.size W w' :=
  Below.trans ⟨e1.trans h.os,e2.trans h.tape,e3.trans h.output,by rw[e];exact h.size,fun i hi=>by rw[e];exact h.block i hi⟩ (hb.mono (by rw[e];exact h.size))
theorem bcell {W w1:World} {B:Nat} (hb:Below B W w1) :
    (∀b o,b<B→w1.cell? ⟨b,o,none⟩=W.cell? ⟨b,o,none⟩)∧(∀b o,b<B→w1.frozen? ⟨b,o,none⟩=W.frozen? ⟨b,o,none⟩) :=
  ⟨fun b o h=>hb.cell (p:=⟨b,o,none⟩) h,fun b o h=>hb.frozen (p:=⟨b,o,none⟩) h⟩
def IsBytes (W:World) (A:Option Addr) (n:Nat) (l:List Nat):Prop :=
  n=l.length∧n≤9223372036854775807∧(∀(k:Nat) (h:k<l.length),l[k]<256) ∧
  (0<n→∃b off,A=some ⟨b,off,none⟩∧b<W.heap.size∧∀(k:Nat) (h:k<l.length),W.cell? ⟨b,off+k,none⟩=some (.int .u8 l[k]))
theorem IsBytes.below {W w:World} {A:Option Addr} {n:Nat} {l:List Nat} (h:IsBytes W A n l) (hb:Below W.heap.size W w):IsBytes w A n l :=
  ⟨h.1,h.2.1,h.2.2.1,fun hn=>by
    obtain ⟨b,off,e,hlt,hc⟩:=h.2.2.2 hn
    exact ⟨b,off,e,Nat.lt_of_lt_of_le hlt hb.size,fun k hk=>((bcell hb).1 b _ hlt).trans (hc k hk)⟩⟩
theorem IsBytes.drew {W:World} {A:Option Addr} {n:Nat} {l:List Nat} (h:IsBytes W A n l):IsBytes W.drew A n l:=h
def St.eqb (s t:St):Bool:=(s.w0==t.w0)&&((s.w1==t.w1)&&((s.w2==t.w2)&&(s.w3==t.w3)))
theorem St.eqb_iff (s t:St):s.eqb t=true↔s=t:=by
  cases s;cases t
  simp[St.eqb]
theorem St.eqb_self (s:St):s.eqb s=true:=(St.eqb_iff s s).2 rfl
theorem beq_cast (a b:Nat):((a:Int)==(b:Int))=(a==b):=by
  rw[Bool.eq_iff_iff];simp only[beq_iff_eq];omega
theorem run_set_eq {P:Program} {T E:TypeId} (hu:P.underlying T=some (.array 4 E)) (hi0:(P.info? E).isSome=true) (hE:P.underlying E=some (.int .u64)) (hc:P.cellsOf E=1) (d:Nat) (w:World) (s t:St) :
    (Op.equalIn (d+2) T (.agg #[.int .u64 s.w0,.int .u64 s.w1,.int .u64 s.w2,.int .u64 s.w3]) (.agg #[.int .u64 t.w0,.int .u64 t.w1,.int .u64 t.w2,.int .u64 t.w3])).run P w=.ok (s.eqb t) w:=by
  obtain ⟨i,hi⟩:=Option.isSome_iff_exists.1 hi0
  rw[show d+2=(d+1)+1 from rfl,run_equalIn_array w (d+1) _ _ hu hi,hc]
  have hr:List.range 4=[0,1,2,3]:=by decide
  rw[hr]
  have hp:∀(a0 a1 a2 a3:Value),(part E #[a0,a1,a2,a3] 0).run P w=.ok a0 w∧(part E #[a0,a1,a2,a3] 1).run P w=.ok a1 w ∧
      (part E #[a0,a1,a2,a3] 2).run P w=.ok a2 w∧(part E #[a0,a1,a2,a3] 3).run P w=.ok a3 w:=by
    intro a0 a1 a2 a3
    refine ⟨?_,?_,?_,?_⟩<;>simp[part,isAgg,run_underlying hE]
  obtain ⟨p0,p1,p2,p3⟩:=hp (.int .u64 s.w0) (.int .u64 s.w1) (.int .u64 s.w2) (.int .u64 s.w3)
  obtain ⟨q0,q1,q2,q3⟩:=hp (.int .u64 t.w0) (.int .u64 t.w1) (.int .u64 t.w2) (.int .u64 t.w3)
  have he:∀a b:Nat,(Op.equalIn (d+1) E (.int .u64 a) (.int .u64 b)).run P w=.ok (a==b) w:=by
    intro a b
    rw[run_equalIn_int w d E .u64 .u64 _ _ hE,←beq_cast]
  have hs:∀(xs ys:Array Value) (k:Nat) (r:List Nat) (a b:Nat),(part E xs k).run P w=.ok (.int .u64 a) w→(part E ys k).run P w=.ok (.int .u64 b) w →
      (Op.eqItems (d+1) E 1 xs ys (k::r)).run P w=bif a==b then (Op.eqItems (d+1) E 1 xs ys r).run P w else .ok false w:=by
    intro xs ys k r a b h1 h2
    simp only[Op.eqItems,Sem.run_bind,Nat.mul_one,h1,h2,he,Result.andThen_ok]
    cases a==b<;>simp
  rw[hs _ _ 0 _ _ _ p0 q0,hs _ _ 1 _ _ _ p1 q1,hs _ _ 2 _ _ _ p2 q2,hs _ _ 3 _ _ _ p3 q3]
  have hn:∀xs ys:Array Value,(Op.eqItems (d+1) E 1 xs ys []).run P w=.ok true w:=fun xs ys=>by simp[Op.eqItems]
  rw[hn]
  unfold St.eqb
  cases s.w0==t.w0<;>cases s.w1==t.w1<;>cases s.w2==t.w2<;>cases s.w3==t.w3<;>rfl
end Go.Proofs.YtgmpfnfomgadeaaGreat

/- Plain facts on classes: which are right, how a set parts them, what cells they are in memory. No program is named here. -/
namespace Go.Proofs.YtgmpfnfomgadeaaGreat
open Go.RowKit
def arr (n:Nat) (g:Nat→Value):Array Value:=((List.range n).map g).toArray
theorem arr_size (n:Nat) (g:Nat→Value):(arr n g).size=n:=by simp[arr]
theorem arr_get (n:Nat) (g:Nat→Value) (k:Nat) (h:k<n):(arr n g)[k]?=some (g k):=by simp[arr,h]
theorem arr_congr {n:Nat} {g h:Nat→Value} (e:∀k,k<n→g k=h k):arr n g=arr n h:=by
  unfold arr;congr 1;apply List.map_congr_left;intro k hk;exact e k (by simpa using hk)
theorem arr_set (n:Nat) (g:Nat→Value) (k:Nat) (v:Value):(arr n g).setIfInBounds k v=arr n (fun j=>if j=k then v else g j):=by
  apply Array.ext_getElem?
  intro i
  rw[Array.getElem?_setIfInBounds]
  by_cases hi:i<n
  · rw[arr_get _ _ i hi,arr_get _ _ i hi,arr_size]
    by_cases e:k=i
    · subst e;simp[hi]
    · have e':¬i=k:=fun h=>e h.symm
      simp[e,e']
  · have h1:∀g':Nat→Value,(arr n g')[i]?=none:=fun g'=>by rw[Array.getElem?_eq_none];rw[arr_size];omega
    rw[h1,h1,arr_size]
    by_cases e:k=i
    · subst e;simp[hi]
    · simp[e]
section
variable {w w' W:World} {g B:Nat} {t:TypeId} {cs old:Array Value}
theorem At.row (h:At w g t old) (cs:Array Value):At (w.setRow g cs) g t cs:=setRow_heap w g old cs t (0,0) h
theorem below_row (h:Below B W w) (hg:B≤g) (cs:Array Value):Below B W (w.setRow g cs) :=
  ⟨h.os,h.tape,h.output,by rw[setRow_size];exact h.size,fun i hi=>(setRow_other w g i cs (by omega)).trans (h.block i hi)⟩
theorem at_new' (w:World) (g:Nat) (t:TypeId) {cs:Array Value} (h:g=w.heap.size):At (w.alloc (.cells cs t)) g t cs:=by
  subst h;exact At.new w t cs
end
structure Cl where
  cl:Nat→Nat
  n:Int
def Cl.Ok (c:Cl):Prop:=∀k,k<256→c.cl k<256
def Cl.g (c:Cl) (k:Nat):Value:=if k<256 then .int .u8 (c.cl k:Nat) else .int .i64 c.n
def Cl.cells (c:Cl):Array Value:=arr 257 c.g
theorem Cl.size (c:Cl):c.cells.size=257:=arr_size _ _
def Cl.zero:Cl:=⟨fun _=>0,0⟩
def Cl.one:Cl:=⟨fun _=>0,1⟩
def rstep (s:Option Nat) (x:Nat):Option Nat:=s.bind fun m=>if m<x then none else if x=m then some (m+1) else some m
def Cl.met (c:Cl):Nat→Option Nat
  | 0=>some 0
  | k+1=>rstep (c.met k) (c.cl k)
def Cl.right (c:Cl):Bool:=match c.met 256 with | none=>false | some m=>c.n==(m:Int)
def nub (f:Nat→Nat):Nat→List Nat
  | 0=>[]
  | k+1=>if f k∈nub f k then nub f k else nub f k++[f k]
def Cl.key (c:Cl) (s:St) (b:Nat):Nat:=2*c.cl b+(if s.has b then 1 else 0)
def Cl.partTo (c:Cl) (s:St) (k:Nat):Cl:=⟨fun b=>if b<k then (nub (c.key s) k).idxOf (c.key s b) else 0,((nub (c.key s) k).length:Nat)⟩
def Cl.part (c:Cl) (s:St):Cl:=c.partTo s 256
def alike (l:List St) (a b:Nat):Bool:=l.all (fun s=>s.has a==s.has b)
def IsSets (W:World) (A:Option Addr) (n:Nat) (l:List St):Prop :=
  n=l.length∧n≤9223372036854775807∧(∀(k:Nat) (h:k<l.length),l[k].Ok) ∧
  (0<n→∃b off,A=some ⟨b,off,none⟩∧b<W.heap.size∧∀(k:Nat) (h:k<l.length),
    W.cell? ⟨b,off+k*4,none⟩=some (.int .u64 l[k].w0)∧W.cell? ⟨b,off+k*4+1,none⟩=some (.int .u64 l[k].w1)∧W.cell? ⟨b,off+k*4+2,none⟩=some (.int .u64 l[k].w2)∧W.cell? ⟨b,off+k*4+3,none⟩=some (.int .u64 l[k].w3))
theorem IsSets.below {W w:World} {A:Option Addr} {n:Nat} {l:List St} {B:Nat} (h:IsSets W A n l) (hB:W.heap.size≤B) (hb:Below B W w):IsSets w A n l :=
  ⟨h.1,h.2.1,h.2.2.1,fun hn=>by
    obtain ⟨b,off,e,hlt,hc⟩:=h.2.2.2 hn
    refine ⟨b,off,e,Nat.lt_of_lt_of_le hlt hb.size,fun k hk=>?_⟩
    obtain ⟨c0,c1,c2,c3⟩:=hc k hk
    exact ⟨((bcell hb).1 b _ (by omega)).trans c0,((bcell hb).1 b _ (by omega)).trans c1,((bcell hb).1 b _ (by omega)).trans c2,((bcell hb).1 b _ (by omega)).trans c3⟩⟩
theorem IsSets.next {W w:World} {A:Option Addr} {n:Nat} {l:List St} (h:IsSets W A n l) (hb:Below W.heap.size W w):IsSets w A n l:=h.below (Nat.le_refl _) hb
theorem IsSets.drew {W:World} {A:Option Addr} {n:Nat} {l:List St} (h:IsSets W A n l):IsSets W.drew A n l:=h
theorem IsSets.nil (W:World) (A:Option Addr):IsSets W A 0 []:=⟨rfl,by omega,fun k h=>by simp at h,fun h=>by omega⟩
section
variable {P:Program}
end
end Go.Proofs.YtgmpfnfomgadeaaGreat

/- Rows of classes: read whole, read by an index; blocks that stand behind a call. -/
namespace Go.Proofs.YtgmpfnfomgadeaaGreat
open Go.RowKit
theorem wpList_load_row_want {P:Program} {ops:Array Oper} {rest:List Oper} {o:Oper} {a:Act} {w:World} {Q:Exit→Act→World→Prop} (hw:Region.wanted o (yielded ops a.tmps)=true) (ty:TypeId) (x:Operand) (ho:o.op=.load ty x)
    (g:Nat) (hx:a.eval x=.pointer (some ⟨g,0,none⟩)) (t:TypeId) (cs:Array Value) (fr:Nat×Nat) (d:TypeDesc) (hg:w.heap[g]?=some (.cells cs t fr))
    (hu:P.underlying ty=some d) (hd:(match d with | .struct _ | .array _ _=>true | _=>false)=true) (hi:(P.info? ty).map (·.size)=some cs.size)
    (h:wpList P ops Q rest (a.put o.dst (.agg cs)) w):wpList P ops Q (o::rest) a w :=
  wpList_step fun K hK=>by rw[if_pos hw];exact wp_load_row ty x ho g hx t cs fr d hg hu hd hi (hK _ _ h)
theorem At.step {w w0 w':World} {g:Nat} {t:TypeId} {cs:Array Value} (h:At w g t cs) (hb:Below w0.heap.size w0 w') (e:w0.heap=w.heap):At w' g t cs:=by
  have h0:At w0 g t cs:=by unfold At at h ⊢;rw[e];exact h
  exact h0.below hb h0.lt
end Go.Proofs.YtgmpfnfomgadeaaGreat

/- Patterns as they lie in memory: a node's own cells, and where its parts lie; how deep, how great, formed, alike. No program is named here. -/
namespace Go.Proofs.YtgmpfnfomgadeaaGreat
open Go.RowKit
inductive Tr where
  | node (kind:Int) (set:St) (A:Option Addr) (n c:Nat) (parts:List Tr) (lo hi:Int) (neg:Bool):Tr
def Tr.kind:Tr→Int | .node k _ _ _ _ _ _ _ _=>k
def Tr.set:Tr→St | .node _ s _ _ _ _ _ _ _=>s
def Tr.addr:Tr→Option Addr | .node _ _ A _ _ _ _ _ _=>A
def Tr.n:Tr→Nat | .node _ _ _ n _ _ _ _ _=>n
def Tr.cap:Tr→Nat | .node _ _ _ _ c _ _ _ _=>c
def Tr.parts:Tr→List Tr | .node _ _ _ _ _ p _ _ _=>p
def Tr.lo:Tr→Int | .node _ _ _ _ _ _ l _ _=>l
def Tr.hi:Tr→Int | .node _ _ _ _ _ _ _ h _=>h
def Tr.neg:Tr→Bool | .node _ _ _ _ _ _ _ _ g=>g
def Tr.cs (t:Tr):List Value:=[.int .i64 t.kind,.int .u64 t.set.w0,.int .u64 t.set.w1,.int .u64 t.set.w2,.int .u64 t.set.w3,.slice t.addr t.n t.cap,.int .i64 t.lo,.int .i64 t.hi,.bool t.neg]
theorem Tr.cs_length (t:Tr):t.cs.length=9:=rfl
def I64 (x:Int):Prop:=-9223372036854775808≤x∧x≤9223372036854775807
def Tr.In (w:World):Nat→Tr→Prop
  | 0,_=>False
  | k+1,t=>(t.set.Ok∧I64 t.kind∧I64 t.lo∧I64 t.hi)∧(t.n=t.parts.length∧t.n≤9223372036854775807)∧(0<t.n→∃b off,t.addr=some ⟨b,off,none⟩∧b<w.heap.size∧∀(j:Nat) (h:j<t.parts.length),w.rangeAt b (off+j*9) t.parts[j].cs) ∧
    ∀(j:Nat) (h:j<t.parts.length),Tr.In w k t.parts[j]
theorem range_below {w w':World} {B b o:Nat} {cs:List Value} (h:w.rangeAt b o cs) (hb:b<w.heap.size) (hB:w.heap.size≤B) (hw:Below B w w'):w'.rangeAt b o cs:=fun j v hv=>by
  rw[(bcell hw).1 b (o+j) (by omega)];exact h j v hv
theorem Tr.In.below {w w':World} {B:Nat} (hB:w.heap.size≤B) (hw:Below B w w'):∀(k:Nat) (t:Tr),Tr.In w k t→Tr.In w' k t
  | 0,_,h=>h.elim
  | k+1,t,h=>by
    obtain ⟨h0,hn,hc,hp⟩:=h
    refine ⟨h0,hn,fun h0=>?_,fun j hj=>Tr.In.below hB hw k _ (hp j hj)⟩
    obtain ⟨b,off,e,hlt,hr⟩:=hc h0
    exact ⟨b,off,e,Nat.lt_of_lt_of_le hlt hw.size,fun j hj=>range_below (hr j hj) hlt hB hw⟩
theorem Tr.In.next {w w':World} {k:Nat} {t:Tr} (h:Tr.In w k t) (hw:Below w.heap.size w w'):Tr.In w' k t:=Tr.In.below (Nat.le_refl _) hw k t h
theorem Tr.In.same {w w':World} (e:w'.heap=w.heap):∀(k:Nat) (t:Tr),Tr.In w k t→Tr.In w' k t
  | 0,_,h=>h.elim
  | k+1,t,h=>by
    obtain ⟨h0,hn,hc,hp⟩:=h
    refine ⟨h0,hn,fun h0=>?_,fun j hj=>Tr.In.same e k _ (hp j hj)⟩
    obtain ⟨b,off,ea,hlt,hr⟩:=hc h0
    exact ⟨b,off,ea,by rw[e];exact hlt,fun j hj i v hv=>by have:=hr j hj i v hv;unfold World.cell? at this ⊢;rw[e];exact this⟩
theorem Tr.In.step {w w0 w':World} {k:Nat} {t:Tr} (h:Tr.In w k t) (hb:Below w0.heap.size w0 w') (e:w0.heap=w.heap):Tr.In w' k t:=(Tr.In.same e k t h).next hb
theorem Tr.In.drew {w:World} {k:Nat} {t:Tr} (h:Tr.In w k t):Tr.In w.drew k t:=Tr.In.same (w:=w) (w':=w.drew) (heap_drew w) k t h
theorem Tr.In.up {w:World}:∀(k:Nat) (t:Tr),Tr.In w k t→Tr.In w (k+1) t
  | 0,_,h=>h.elim
  | k+1,t,h=>by
    obtain ⟨h0,hn,hc,hp⟩:=h
    exact ⟨h0,hn,hc,fun j hj=>Tr.In.up k _ (hp j hj)⟩
theorem At.tr_cell {w:World} {g:Nat} {t:TypeId} {r:Tr} (h:At w g t r.cs.toArray) :
    w.cell? ⟨g,0,none⟩=some (.int .i64 r.kind)∧w.cell? ⟨g,5,none⟩=some (.slice r.addr r.n r.cap)∧w.cell? ⟨g,6,none⟩=some (.int .i64 r.lo)∧w.cell? ⟨g,7,none⟩=some (.int .i64 r.hi)∧w.cell? ⟨g,8,none⟩=some (.bool r.neg) :=
  ⟨At.cell h 0,At.cell h 5,At.cell h 6,At.cell h 7,At.cell h 8⟩
def maxl (l:List Int):Int:=l.foldl max 0
def deepS:Nat→Int→Tr→Int
  | 0,_,_=>0
  | k+1,m,t=>if m<1 then 1 else 1+maxl (t.parts.map (deepS k (m-1)))
theorem maxl_snoc (l:List Int) (x:Int):maxl (l++[x])=max (maxl l) x:=by unfold maxl;rw[List.foldl_append];rfl
theorem maxl_le (l:List Int) (m:Int) (h0:0≤m) (h:∀x∈l,x≤m):maxl l≤m:=by
  unfold maxl
  have:∀a:Int,a≤m→l.foldl max a≤m:=by
    induction l with
    | nil=>exact fun a ha=>ha
    | cons x r ih =>
      intro a ha
      rw[List.foldl_cons]
      exact ih (fun y hy=>h y (List.mem_cons_of_mem _ hy)) _ (by have:=h x (by simp);omega)
  exact this 0 h0
theorem maxl_ge (l:List Int):0≤maxl l:=by
  unfold maxl
  have:∀a:Int,0≤a→0≤l.foldl max a:=by
    induction l with
    | nil=>exact fun a ha=>ha
    | cons x r ih=>intro a ha;rw[List.foldl_cons];exact ih _ (by omega)
  exact this 0 (Int.le_refl _)
theorem deepS_le:∀(k:Nat) (m:Int) (t:Tr),0≤m→deepS k m t≤m+1
  | 0,m,_,h=>by show (0:Int)≤_;omega
  | k+1,m,t,h=>by
    show (if m<1 then 1 else 1+maxl _)≤m+1
    split
    · omega
    · have:=maxl_le (t.parts.map (deepS k (m-1))) m (by omega) (by
        intro x hx
        rw[List.mem_map] at hx
        obtain ⟨p,_,rfl⟩:=hx
        have:=deepS_le k (m-1) p (by omega)
        omega)
      omega
theorem deepS_ge (k:Nat) (m:Int) (t:Tr):0≤deepS k m t:=by
  cases k with
  | zero=>exact Int.le_refl _
  | succ k =>
    show 0≤(if m<1 then 1 else 1+maxl _)
    have:=maxl_ge (t.parts.map (deepS k (m-1)))
    split<;>omega
def deepTo (k:Nat) (m:Int) (t:Tr) (j:Nat):Int:=maxl ((t.parts.take j).map (deepS k m))
theorem deepTo_zero (k:Nat) (m:Int) (t:Tr):deepTo k m t 0=0:=rfl
theorem deepTo_succ (k:Nat) (m:Int) (t:Tr) (j:Nat) (h:j<t.parts.length):deepTo k m t (j+1)=max (deepTo k m t j) (deepS k m t.parts[j]):=by
  unfold deepTo;rw[List.take_succ_eq_append_getElem h,List.map_append,List.map_singleton,maxl_snoc]
theorem deepTo_all (k:Nat) (m:Int) (t:Tr) (h:¬m<1):1+deepTo k (m-1) t t.parts.length=deepS (k+1) m t:=by
  unfold deepTo;rw[List.take_length];show _=(if m<1 then 1 else 1+maxl _);rw[if_neg h]
theorem deepTo_le (k:Nat) (m:Int) (t:Tr) (j:Nat) (h:0≤m):deepTo k m t j≤m+1:=by
  refine maxl_le _ _ (by omega) fun x hx=>?_
  rw[List.mem_map] at hx
  obtain ⟨p,_,rfl⟩:=hx
  exact deepS_le k m p h
theorem deepTo_ge (k:Nat) (m:Int) (t:Tr) (j:Nat):0≤deepTo k m t j:=maxl_ge _
end Go.Proofs.YtgmpfnfomgadeaaGreat

/- How great a pattern is: by its parts, at most 1001. No program is named here. -/
namespace Go.Proofs.YtgmpfnfomgadeaaGreat
open Go.RowKit
def cut1001 (x:Int):Int:=if 1001<x then 1001 else x
def sumS (l:List Int):Int:=l.foldl (fun n x=>cut1001 (n+x)) 0
def cut2000 (x:Int):Int:=if 2000<x then 2000 else x
def timesLo (lo:Int):Int:=if 1<lo then cut2000 lo else 1
def timesS (lo hi:Int):Int:=if timesLo lo<hi then cut2000 hi else timesLo lo
def sizeS:Nat→Tr→Int
  | 0,_=>0
  | k+1,t=>cut1001 ((if t.kind=7 then sumS (t.parts.map (sizeS k))*timesS t.lo t.hi else sumS (t.parts.map (sizeS k)))+1)
theorem cut1001_le (x:Int):cut1001 x≤1001:=by unfold cut1001;split<;>omega
theorem cut1001_ge (x:Int) (h:0≤x):0≤cut1001 x:=by unfold cut1001;split<;>omega
theorem sumS_snoc (l:List Int) (x:Int):sumS (l++[x])=cut1001 (sumS l+x):=by unfold sumS;rw[List.foldl_append];rfl
theorem sumS_le (l:List Int):sumS l≤1001:=by
  unfold sumS
  have:∀a:Int,a≤1001→l.foldl (fun n x=>cut1001 (n+x)) a≤1001:=by
    induction l with
    | nil=>exact fun a h=>h
    | cons x r ih=>intro a _;rw[List.foldl_cons];exact ih _ (cut1001_le _)
  exact this 0 (by omega)
theorem sumS_ge (l:List Int) (h:∀x∈l,0≤x):0≤sumS l:=by
  unfold sumS
  have:∀a:Int,0≤a→0≤l.foldl (fun n x=>cut1001 (n+x)) a:=by
    induction l with
    | nil=>exact fun a h=>h
    | cons x r ih =>
      intro a ha
      rw[List.foldl_cons]
      exact ih (fun y hy=>h y (List.mem_cons_of_mem _ hy)) _ (cut1001_ge _ (by have:=h x (by simp);omega))
  exact this 0 (by omega)
theorem timesLo_ge (lo:Int):1≤timesLo lo:=by unfold timesLo cut2000;split<;>(try split)<;>omega
theorem timesLo_le (lo:Int):timesLo lo≤2000:=by unfold timesLo cut2000;split<;>(try split)<;>omega
theorem timesS_ge (lo hi:Int):1≤timesS lo hi:=by
  have:=timesLo_ge lo
  unfold timesS cut2000;split<;>(try split)<;>omega
theorem timesS_le (lo hi:Int):timesS lo hi≤2000:=by
  have:=timesLo_le lo
  unfold timesS cut2000;split<;>(try split)<;>omega
theorem sizeS_ge:∀(k:Nat) (t:Tr),0≤sizeS k t
  | 0,_=>Int.le_refl _
  | k+1,t=>by
    have h:0≤sumS (t.parts.map (sizeS k)):=sumS_ge _ (by
      intro x hx
      rw[List.mem_map] at hx
      obtain ⟨p,_,rfl⟩:=hx
      exact sizeS_ge k p)
    have ht:=timesS_ge t.lo t.hi
    refine cut1001_ge _ ?_
    split
    · have:=Int.mul_nonneg h (show (0:Int)≤timesS t.lo t.hi by omega);omega
    · omega
theorem sizeS_le (k:Nat) (t:Tr):sizeS k t≤1001:=by
  cases k with
  | zero=>show (0:Int)≤1001;omega
  | succ k=>exact cut1001_le _
def sizeTo (k:Nat) (t:Tr) (j:Nat):Int:=sumS ((t.parts.take j).map (sizeS k))
theorem sizeTo_zero (k:Nat) (t:Tr):sizeTo k t 0=0:=rfl
theorem sizeTo_succ (k:Nat) (t:Tr) (j:Nat) (h:j<t.parts.length):sizeTo k t (j+1)=cut1001 (sizeTo k t j+sizeS k t.parts[j]):=by
  unfold sizeTo;rw[List.take_succ_eq_append_getElem h,List.map_append,List.map_singleton,sumS_snoc]
theorem sizeTo_le (k:Nat) (t:Tr) (j:Nat):sizeTo k t j≤1001:=sumS_le _
theorem sizeTo_ge (k:Nat) (t:Tr) (j:Nat):0≤sizeTo k t j:=sumS_ge _ (by
  intro x hx
  rw[List.mem_map] at hx
  obtain ⟨p,_,rfl⟩:=hx
  exact sizeS_ge k p)
theorem sizeTo_times (k:Nat) (t:Tr) (h:t.kind=7):cut1001 (sizeTo k t t.parts.length*timesS t.lo t.hi+1)=sizeS (k+1) t:=by
  unfold sizeTo;rw[List.take_length];show _=cut1001 (_+1);rw[if_pos h]
theorem sizeTo_plain (k:Nat) (t:Tr) (h:¬t.kind=7):cut1001 (sizeTo k t t.parts.length+1)=sizeS (k+1) t:=by
  unfold sizeTo;rw[List.take_length];show _=cut1001 (_+1);rw[if_neg h]
theorem cut1001_yes {x:Int} (h:1001<x):cut1001 x=1001:=by unfold cut1001;rw[if_pos h]
theorem cut1001_no {x:Int} (h:¬1001<x):cut1001 x=x:=by unfold cut1001;rw[if_neg h]
theorem mul_bounds {x T:Int} (h0:0≤x) (h1:x≤1001) (h2:1≤T) (h3:T≤2000):0≤x*T∧x*T≤2002000:=by
  have a:=Int.mul_nonneg h0 (show (0:Int)≤T by omega)
  have b:=Int.mul_le_mul h1 h3 (by omega) (by omega:(0:Int)≤1001)
  exact ⟨a,by omega⟩
theorem wrap_same {x:Int} (h:I64 x):wrap64 x=x:=by unfold wrap64;unfold I64 at h;omega
theorem ret_int {k:IntKind} {a b:Int} (h:a=b):Ending.returned (.int k a)=.returned (.int k b):=by rw[h]
end Go.Proofs.YtgmpfnfomgadeaaGreat

/- Two patterns alike, place by place. No program is named here. -/
namespace Go.Proofs.YtgmpfnfomgadeaaGreat
open Go.RowKit
def ownSame (a b:Tr):Bool:=(a.kind==b.kind)&&((a.set.eqb b.set)&&((a.lo==b.lo)&&((a.hi==b.hi)&&((a.neg==b.neg)&&(a.parts.length==b.parts.length)))))
def sameS:Nat→Int→Tr→Tr→Bool
  | 0,_,_,_=>false
  | k+1,m,a,b=>decide (1≤m)&&(ownSame a b&&(a.parts.zip b.parts).all (fun p=>sameS k (m-1) p.1 p.2))
theorem own_yes {a b:Tr} (h1:a.kind=b.kind) (h2:a.set.eqb b.set=true) (h3:a.lo=b.lo) (h4:a.hi=b.hi) (h5:a.neg=b.neg) (h6:a.parts.length=b.parts.length):ownSame a b=true:=by
  unfold ownSame;simp[h1,h2,h3,h4,h5,h6]
theorem own_kind {a b:Tr} (h:¬a.kind=b.kind):ownSame a b=false:=by unfold ownSame;simp[h]
theorem own_set {a b:Tr} (h:a.set.eqb b.set=false):ownSame a b=false:=by unfold ownSame;simp[h]
theorem own_lo {a b:Tr} (h:¬a.lo=b.lo):ownSame a b=false:=by unfold ownSame;simp[h]
theorem own_hi {a b:Tr} (h:¬a.hi=b.hi):ownSame a b=false:=by unfold ownSame;simp[h]
theorem own_neg {a b:Tr} (h:¬a.neg=b.neg):ownSame a b=false:=by unfold ownSame;simp[h]
theorem own_len {a b:Tr} (h:¬a.parts.length=b.parts.length):ownSame a b=false:=by unfold ownSame;simp[h]
theorem int_eq {x y:Int} (h:x=y):(x==y)=true∧(x != y)=false:=⟨by rw[beq_iff_eq];exact h,by subst h;simp⟩
theorem int_ne {x y:Int} (h:¬x=y):(x==y)=false∧(x != y)=true:=⟨by rw[beq_eq_false_iff_ne];exact h,by rw[bne_iff_ne];exact h⟩
theorem bool_eq {x y:Bool} (h:x=y):(x==y)=true∧(x != y)=false:=by subst h;cases x<;>exact ⟨rfl,rfl⟩
theorem bool_ne {x y:Bool} (h:¬x=y):(x==y)=false∧(x != y)=true:=by cases x<;>cases y<;>simp_all
theorem At.tr_set {w:World} {g:Nat} {t:TypeId} {r:Tr} (h:At w g t r.cs.toArray) :
    w.cell? ⟨g,1,none⟩=some (.int .u64 r.set.w0)∧w.cell? ⟨g,2,none⟩=some (.int .u64 r.set.w1)∧w.cell? ⟨g,3,none⟩=some (.int .u64 r.set.w2)∧w.cell? ⟨g,4,none⟩=some (.int .u64 r.set.w3) :=
  ⟨At.cell h 1,At.cell h 2,At.cell h 3,At.cell h 4⟩
end Go.Proofs.YtgmpfnfomgadeaaGreat
