/- Joined: RowTr, RefHas, RefSame, TreeKit. -/
import Derived.Test.YtgmpfnfomgadeaaGreatMaa
import Derived.Test.YtgmpfnfomgadeaaGreatMab
import Derived.Laws.AppendOwn
import Derived.Deep.MidRow
import Derived.Test.YtgmpfnfomgadeaaGreatProg
import Derived.Test.YtgmpfnfomgadeaaGreatMad
import Derived.Deep.RegionHeld3
import Derived.Test.YtgmpfnfomgadeaaGreatMae
import Derived.Laws.MakeOwn
import Derived.Laws.OwnMore
import Derived.Deep.AppendLies
import Derived.Deep.AppendSrc
/- A row of patterns of the call's own: what lies where; what a store there leaves as it was; the steps of a statement whose order is open. No program is walked here. -/
set_option linter.unusedVariables false
namespace Go.Proofs.YtgmpfnfomgadeaaGreat
open Go.RowKit
structure RowTr (w:World) (g:Nat) (n:Nat) (f:Nat→Tr):Prop where
  at_:∀j,j<n→w.rangeAt g (j*9) (f j).cs
  there:∀j,j<n→w.there g (j*9) 9
section
variable {w w':World} {g n:Nat} {f:Nat→Tr}
theorem RowTr.below {B:Nat} (h:RowTr w g n f) (hb:Below B w w') (hg:g<B):RowTr w' g n f :=
  ⟨fun j hj i v hv=>((bcell hb).1 g _ hg).trans (h.at_ j hj i v hv),fun j hj i hi=>by
    have:=h.there j hj i hi
    exact ⟨by rw[(bcell hb).1 g _ hg];exact this.1,by rw[(bcell hb).2 g _ hg];exact this.2⟩⟩
theorem RowTr.congr {f':Nat→Tr} (h:RowTr w g n f) (e:∀j,j<n→f j=f' j):RowTr w g n f':=⟨fun j hj=>by rw[←e j hj];exact h.at_ j hj,h.there⟩
theorem RowTr.put (h:RowTr w g n f) {i:Nat} (hi:i<n) (t:Tr):RowTr (w.setCells g (i*9) t.cs) g n (fun j=>if j=i then t else f j) :=
  ⟨fun j hj=>by
    by_cases e:j=i
    · subst e
      rw[if_pos rfl]
      exact World.rangeAt_setCells_same _ _ _ _ (h.there j hj)
    · rw[if_neg e]
      exact World.rangeAt_setCells_apart (h.at_ j hj) _ _ _ (by right;rw[Tr.cs_length,Tr.cs_length];omega),
   fun j hj=>World.there_setCells (h.there j hj) _ _ _⟩
theorem RowTr.same (h:RowTr w g n f) (e:w'.heap=w.heap):RowTr w' g n f :=
  ⟨fun j hj i v hv=>by have:=h.at_ j hj i v hv;unfold World.cell? at this ⊢;rw[e];exact this,fun j hj i hi=>by
    have:=h.there j hj i hi
    unfold World.cell? World.frozen? at this ⊢;rw[e];exact this⟩
theorem RowTr.drew (h:RowTr w g n f):RowTr w.drew g n f:=h.same (heap_drew w)
theorem RowTr.lt (h:RowTr w g n f) (hn:0<n):g<w.heap.size:=block_lt_of_cell (h.at_ 0 hn 0 _ rfl)
end
theorem setCells_size (b:Nat):∀(vs:List Value) (o:Nat) (w:World),(w.setCells b o vs).heap.size=w.heap.size
  | [],_,_=>rfl
  | v::r,o,w=>(setCells_size b r (o+1) _).trans (by simp[World.setCell])
theorem setCells_block (b k:Nat) (hk:k≠b):∀(vs:List Value) (o:Nat) (w:World),(w.setCells b o vs).heap[k]?=w.heap[k]?
  | [],_,_=>rfl
  | v::r,o,w=>(setCells_block b k hk r (o+1) _).trans (Below.heap_setCell w ⟨b,o,none⟩ v k hk)
theorem setCells_rest (b:Nat):∀(vs:List Value) (o:Nat) (w:World),(w.setCells b o vs).os=w.os∧(w.setCells b o vs).tape=w.tape∧(w.setCells b o vs).output=w.output
  | [],_,_=>⟨rfl,rfl,rfl⟩
  | v::r,o,w=>setCells_rest b r (o+1) _
def Only (g:Nat) (w w':World):Prop:=w'.os=w.os∧w'.tape=w.tape∧w'.output=w.output∧w'.heap.size=w.heap.size∧∀k,k≠g→w'.heap[k]?=w.heap[k]?
theorem Only.refl (g:Nat) (w:World):Only g w w:=⟨rfl,rfl,rfl,rfl,fun _ _=>rfl⟩
theorem Only.cells {g:Nat} {w w':World} (h:Only g w w') (o:Nat) (vs:List Value):Only g w (w'.setCells g o vs):=by
  obtain ⟨a,b,c⟩:=setCells_rest g vs o w'
  exact ⟨a.trans h.1,b.trans h.2.1,c.trans h.2.2.1,(setCells_size g vs o w').trans h.2.2.2.1,fun k hk=>(setCells_block g k hk vs o w').trans (h.2.2.2.2 k hk)⟩
theorem Only.drew {g:Nat} {w w':World} (h:Only g w w'):Only g w w'.drew:=h
theorem Only.below {g B:Nat} {w w':World} (h:Only g w w') (hB:B≤g):Below B w w':=⟨h.1,h.2.1,h.2.2.1,by rw[h.2.2.2.1];exact Nat.le_refl _,fun k hk=>h.2.2.2.2 k (by omega)⟩
theorem Only.at {g h:Nat} {w w':World} {t:TypeId} {cs:Array Value} (ho:Only g w w') (ha:At w h t cs) (hne:h≠g):At w' h t cs:=(ho.2.2.2.2 h hne).trans ha
def Tr.From (base:Nat):Nat→Tr→Prop
  | 0,_=>True
  | k+1,t=>(0<t.n→∀b off,t.addr=some ⟨b,off,none⟩→base≤b)∧∀p∈t.parts,Tr.From base k p
theorem Tr.From.lower {base base':Nat} (hb:base'≤base):∀(k:Nat) (t:Tr),Tr.From base k t→Tr.From base' k t
  | 0,_,_=>trivial
  | k+1,t,h=>⟨fun h0 b off e=>Nat.le_trans hb (h.1 h0 b off e),fun p hp=>Tr.From.lower hb k p (h.2 p hp)⟩
theorem Tr.In.kept {base:Nat} {w w':World} (hs:w.heap.size≤w'.heap.size) (hk:∀b,base≤b→b<w.heap.size→w'.heap[b]?=w.heap[b]?):∀(k:Nat) (t:Tr),Tr.From base k t→Tr.In w k t→Tr.In w' k t
  | 0,_,_,h=>h.elim
  | k+1,t,hf,h=>by
    obtain ⟨h0,hn,hc,hp⟩:=h
    refine ⟨h0,hn,fun h0=>?_,fun j hj=>Tr.In.kept hs hk k _ (hf.2 _ (List.getElem_mem hj)) (hp j hj)⟩
    obtain ⟨b,off,e,hlt,hr⟩:=hc h0
    have hb:=hf.1 h0 b off e
    exact ⟨b,off,e,Nat.lt_of_lt_of_le hlt hs,fun j hj i v hv=>by
      have:=hr j hj i v hv
      unfold World.cell? at this ⊢
      rw[hk b hb hlt];exact this⟩
theorem Tr.In.only {g base k:Nat} {w w':World} {t:Tr} (h:Tr.In w k t) (hf:Tr.From base k t) (ho:Only g w w') (hg:g<base):Tr.In w' k t :=
  Tr.In.kept (by rw[ho.2.2.2.1];exact Nat.le_refl _) (fun b hb _=>ho.2.2.2.2 b (by omega)) k t hf h
section
variable {P:Program} {ops:Array Oper} {o:Oper} {a:Act} {w:World} {K:Act→World→Prop} {Q:Exit→Act→World→Prop} {E:Prop}
theorem step_store_mid (hg:o.guard=none) (ty:TypeId) (x y:Operand) (ho:o.op=.store ty x y) (b off:Nat) (cells:Array Value) (hx:a.eval x=.pointer (some ⟨b,off,none⟩)) (hy:a.eval y=.agg cells)
    (ht:w.there b off cells.size) (hi:(P.info? ty).map (·.size)=some cells.size) (h1:cells.all (·.oneCell')=true) (hK:K (a.put o.dst undef) (w.setCells b off cells.toList)) :
    if Region.wanted o (yielded ops a.tmps)=true then Oper.wp P o a w K Q else E:=by
  rw[if_pos (by simp[Region.wanted,hg])]
  exact wp_store_mid ty x y ho b off cells hx hy ht hi h1 hK
end
end Go.Proofs.YtgmpfnfomgadeaaGreat

/- What the reference's Has answers, of any set and byte. -/
set_option maxHeartbeats 400000
namespace Go.Proofs.YtgmpfnfomgadeaaGreat
open Go.RowKit
theorem ret_bool {a b:Bool} (h:a=b):Ending.returned (.bool a)=.returned (.bool b):=by rw[h]
theorem St.has_of (s:St) (b q r:Nat) (hb:b=64*q+r) (hr:r<64):s.has b=(s.word q).testBit r:=by
  unfold St.has;rw[show b / 64=q from by omega,show b % 64=r from by omega]
theorem refHas (s:St) (hs:s.Ok) (b:Nat) (hb:b<256) (w:World) :
    Calls Tryz.prog 25 #[.agg #[.int .u64 s.w0,.int .u64 s.w1,.int .u64 s.w2,.int .u64 s.w3],.int .i64 b] w fun e w'=>e=.returned (.bool (s.has b))∧Below w.heap.size w w':=by
  obtain ⟨r,hr⟩:∃r:Nat,r=b % 64:=⟨_,rfl⟩
  have hm:(b:Int) % 64=r:=by omega
  have hq:b / 64=0∨b / 64=1∨b / 64=2∨b / 64=3:=by omega
  have hr':r<64:=by omega
  rcases hq with hq | hq | hq | hq
  · have hd:(b:Int) / 64=0:=by omega
    have HR:=Lib.hid (s.has_of b 0 r (by omega) hr')
    clear hr hq
    go_enter Tryz.func25,Tryz.ntmps25
    go_wp2
    go_loop [5,12] (fun x i=>∃k:Nat,k≤r∧i=.int .i64 k∧x=.int .u64 (hv s.w0 k:Nat)) (fun _ i=>r-(intOf i).toNat)
    case atStart=>exact ⟨0,Nat.zero_le _,rfl,by rw[hv_zero]⟩
    case round =>
      obtain ⟨k,hk,rfl,rfl⟩:=hrel
      by_cases hlt:k<r
      · go_wp2
        go_round
        case rel=>exact ⟨k+1,by omega,by go_num,by rw[hv_half' _ _ hs.o0]⟩
        case measure=>simp[intOf];omega
      · have hkr:k=r:=by omega
        subst hkr
        go_wp2
        go_ret
        exact ⟨ret_bool ((hv_bit' _ _).trans HR.out.symm),(Below.refl _ _).alloc (Nat.le_refl _) _⟩
  · have hd:(b:Int) / 64=1:=by omega
    have HR:=Lib.hid (s.has_of b 1 r (by omega) hr')
    clear hr hq
    go_enter Tryz.func25,Tryz.ntmps25
    go_wp2
    go_loop [5,12] (fun x i=>∃k:Nat,k≤r∧i=.int .i64 k∧x=.int .u64 (hv s.w1 k:Nat)) (fun _ i=>r-(intOf i).toNat)
    case atStart=>exact ⟨0,Nat.zero_le _,rfl,by rw[hv_zero]⟩
    case round =>
      obtain ⟨k,hk,rfl,rfl⟩:=hrel
      by_cases hlt:k<r
      · go_wp2
        go_round
        case rel=>exact ⟨k+1,by omega,by go_num,by rw[hv_half' _ _ hs.o1]⟩
        case measure=>simp[intOf];omega
      · have hkr:k=r:=by omega
        subst hkr
        go_wp2
        go_ret
        exact ⟨ret_bool ((hv_bit' _ _).trans HR.out.symm),(Below.refl _ _).alloc (Nat.le_refl _) _⟩
  · have hd:(b:Int) / 64=2:=by omega
    have HR:=Lib.hid (s.has_of b 2 r (by omega) hr')
    clear hr hq
    go_enter Tryz.func25,Tryz.ntmps25
    go_wp2
    go_loop [5,12] (fun x i=>∃k:Nat,k≤r∧i=.int .i64 k∧x=.int .u64 (hv s.w2 k:Nat)) (fun _ i=>r-(intOf i).toNat)
    case atStart=>exact ⟨0,Nat.zero_le _,rfl,by rw[hv_zero]⟩
    case round =>
      obtain ⟨k,hk,rfl,rfl⟩:=hrel
      by_cases hlt:k<r
      · go_wp2
        go_round
        case rel=>exact ⟨k+1,by omega,by go_num,by rw[hv_half' _ _ hs.o2]⟩
        case measure=>simp[intOf];omega
      · have hkr:k=r:=by omega
        subst hkr
        go_wp2
        go_ret
        exact ⟨ret_bool ((hv_bit' _ _).trans HR.out.symm),(Below.refl _ _).alloc (Nat.le_refl _) _⟩
  · have hd:(b:Int) / 64=3:=by omega
    have HR:=Lib.hid (s.has_of b 3 r (by omega) hr')
    clear hr hq
    go_enter Tryz.func25,Tryz.ntmps25
    go_wp2
    go_loop [5,12] (fun x i=>∃k:Nat,k≤r∧i=.int .i64 k∧x=.int .u64 (hv s.w3 k:Nat)) (fun _ i=>r-(intOf i).toNat)
    case atStart=>exact ⟨0,Nat.zero_le _,rfl,by rw[hv_zero]⟩
    case round =>
      obtain ⟨k,hk,rfl,rfl⟩:=hrel
      by_cases hlt:k<r
      · go_wp2
        go_round
        case rel=>exact ⟨k+1,by omega,by go_num,by rw[hv_half' _ _ hs.o3]⟩
        case measure=>simp[intOf];omega
      · have hkr:k=r:=by omega
        subst hkr
        go_wp2
        go_ret
        exact ⟨ret_bool ((hv_bit' _ _).trans HR.out.symm),(Below.refl _ _).alloc (Nat.le_refl _) _⟩
theorem refHasV (s:St) (hs:s.Ok) (b:Nat) (hb:b<256) (v:Bool) (hv:s.has b=v) (w:World) :
    Calls Tryz.prog 25 #[.agg #[.int .u64 s.w0,.int .u64 s.w1,.int .u64 s.w2,.int .u64 s.w3],.int .i64 b] w fun e w'=>e=.returned (.bool v)∧Below w.heap.size w w':=by
  rw[←hv];exact refHas s hs b hb w
end Go.Proofs.YtgmpfnfomgadeaaGreat

/- What the reference's Same answers. -/
set_option linter.unusedSimpArgs false
set_option linter.unusedVariables false
namespace Go.Proofs.YtgmpfnfomgadeaaGreat
open Go.RowKit
theorem below_two {w:World} (a b:Obj):Below w.heap.size w ((w.alloc a).alloc b):=((Below.refl _ _).alloc (Nat.le_refl _) _).alloc (by simp) _
end Go.Proofs.YtgmpfnfomgadeaaGreat

/- A kit for patterns in memory: lists of patterns that are made, filled and appended to; gathered out of XSpansAt, XEach, XTurned, XParts for programs that lack those functions. -/
set_option linter.unusedSimpArgs false
set_option linter.unusedVariables false
namespace Go.Proofs.YtgmpfnfomgadeaaGreat
open Go.RowKit
theorem info_re:(Tryz.prog.info? 27).map (fun i=>(i.zero,i.size,i.bytes))=some (some (.agg Tr.blank.cs.toArray),9,88):=by kernel_rfl
theorem make_re (n:Nat) (hn:n≤1000000) (w:World):(Instr.makeSlice 25 (.int .i64 (n:Int)) (.int .i64 (n:Int))).run Tryz.prog w=.ok (.slice (some ⟨w.heap.size,0,none⟩) n n) (w.alloc (.cells (madeCells Tr.blank.cs.toArray (n*9)) 27)):=by
  obtain ⟨i,hi,h0,h1,h2⟩:=info_parts info_re
  have h:=run_make (P:=Tryz.prog) w 25 27 i _ Tryz.underlying25 hi h0 .i64 .i64 (n:Int) (n:Int) (by omega) (Int.le_refl _) (by rw[h2];omega) (by omega)
  rw[h1] at h
  simpa [Value.cells] using h
theorem made_row (w:World) (n:Nat):RowTr (w.alloc (.cells (madeCells Tr.blank.cs.toArray (n*9)) 27)) w.heap.size n (fun _=>Tr.blank):=by
  have hA:=At.new w 27 (madeCells Tr.blank.cs.toArray (n*9))
  have hget:∀j i,j<n→i<9→(madeCells Tr.blank.cs.toArray (n*9))[j*9+i]?=Tr.blank.cs[i]?:=by
    intro j i hj hi
    unfold madeCells
    rw[Array.getElem?_map,Array.getElem?_range,if_pos (by omega)]
    have h9:Tr.blank.cs.toArray.size=9:=rfl
    rw[Option.map_some,h9,show (j*9+i) % 9=i by omega,List.getElem?_eq_getElem (by rw[Tr.cs_length];exact hi)]
    congr 1
    rw[getElem!_pos Tr.blank.cs.toArray i (by rw[h9];exact hi)]
    simp
  refine ⟨fun j hj i v hv=>?_,fun j hj i hi=>⟨?_,hA.free _⟩⟩
  · have hi:i<9:=by have:=(List.getElem?_eq_some_iff.1 hv).1;rwa [Tr.cs_length] at this
    rw[hA.cell,hget j i hj hi];exact hv
  · rw[hA.cell,hget j i hj hi,List.getElem?_eq_getElem (by rw[Tr.cs_length];exact hi)];rfl
def Made (S:Nat→Tr→Tr) (k:Nat) (t:Tr) (w:World) (e:Ending) (w':World):Prop:=∃t2:Tr,e=.returned (.agg t2.cs.toArray)∧Tr.In w' k t2∧Tr.From w.heap.size k t2∧t2.strip k=S k t∧Below w.heap.size w w'
def RowOf (S:Nat→Tr→Tr) (w':World) (B k n:Nat) (A:Option Addr) (parts:List Tr) (ps:Nat→Tr):Prop :=
  0<n→∃g,A=some ⟨g,0,none⟩∧B≤g∧g<w'.heap.size∧RowTr w' g n ps∧∀(p:Nat) (h:p<parts.length),Tr.In w' k (ps p)∧Tr.From (g+1) k (ps p)∧(ps p).strip k=S k parts[p]
def putW (w:World) (g j:Nat) (t:Tr):World:=w.setCells g (j*9) t.cs.toArray.toList
theorem putW_row {w:World} {g n j:Nat} {f:Nat→Tr} (h:RowTr w g n f) (hj:j<n) (t:Tr):RowTr (putW w g j t) g n (fun p=>if p=j then t else f p):=h.put hj t
theorem putW_only (w:World) (g j:Nat) (t:Tr):Only g w (putW w g j t):=(Only.refl g w).cells _ _
theorem RowOf.only {S:Nat→Tr→Tr} {w w':World} {B k n g0:Nat} {A:Option Addr} {parts:List Tr} {ps:Nat→Tr} (h:RowOf S w B k n A parts ps) (ho:Only g0 w w') (hg:g0<B):RowOf S w' B k n A parts ps:=fun h0=>by
  obtain ⟨g,e,hb,hlt,hr,hp⟩:=h h0
  have hne:g≠g0:=by omega
  refine ⟨g,e,hb,by rw[ho.2.2.2.1];exact hlt,⟨fun j hj i v hv=>?_,fun j hj i hi=>?_⟩,fun p hpp=>⟨(hp p hpp).1.only (hp p hpp).2.1 ho (by omega),(hp p hpp).2⟩⟩
  · have:=hr.at_ j hj i v hv
    unfold World.cell? at this ⊢
    rw[ho.2.2.2.2 g hne];exact this
  · have:=hr.there j hj i hi
    unfold World.cell? World.frozen? at this ⊢
    rw[ho.2.2.2.2 g hne];exact this
theorem Only.cell {g:Nat} {w w':World} (h:Only g w w') (o:Nat) (v:Value):Only g w (w'.setCell ⟨g,o,none⟩ v):=h.cells o [v]
theorem RowOf.low {S:Nat→Tr→Tr} {w:World} {B B' k n:Nat} {A:Option Addr} {parts:List Tr} {ps:Nat→Tr} (h:RowOf S w B k n A parts ps) (hb:B'≤B):RowOf S w B' k n A parts ps:=fun h0=>by
  obtain ⟨g,e,hb',r⟩:=h h0
  exact ⟨g,e,Nat.le_trans hb hb',r⟩
theorem made_in {S:Nat→Tr→Tr} {w':World} {B k n c:Nat} {A:Option Addr} {parts:List Tr} {ps:Nat→Tr} {kd lo hi:Int} {set:St} {neg:Bool} (hset:set.Ok) (hkd:I64 kd) (hlo:I64 lo) (hhi:I64 hi)
    (hn:n=parts.length) (hn2:n≤2000) (h:RowOf S w' B k n A parts ps) :
    Tr.In w' (k+1) (.node kd set A n c ((List.range n).map ps) lo hi neg)∧Tr.From B (k+1) (.node kd set A n c ((List.range n).map ps) lo hi neg) ∧
      (Tr.node kd set A n c ((List.range n).map ps) lo hi neg).strip (k+1)=.node kd set none n 0 (parts.map (S k)) lo hi neg:=by
  refine ⟨⟨⟨hset,hkd,hlo,hhi⟩,⟨by show n=((List.range n).map ps).length;simp,by show n≤_;omega⟩,fun h0=>?_,fun j hj=>?_⟩,⟨fun h0 b off e=>?_,fun p hp=>?_⟩,?_⟩
  · obtain ⟨g,e,hb,hlt,hr,hp⟩:=h h0
    refine ⟨g,0,e,hlt,fun j hj=>?_⟩
    have hj':j<n:=by have:j<((List.range n).map ps).length:=hj;simpa using this
    have e1:=map_range_at ps n j hj
    show w'.rangeAt g (0+j*9) (((List.range n).map ps)[j]'hj).cs
    rw[e1,Nat.zero_add]
    exact hr.at_ j hj'
  · have hj':j<n:=by have:j<((List.range n).map ps).length:=hj;simpa using this
    obtain ⟨g,e,hb,hlt,hr,hp⟩:=h (by omega)
    have e1:=map_range_at ps n j hj
    show Tr.In w' k (((List.range n).map ps)[j]'hj)
    rw[e1]
    exact (hp j (by omega)).1
  · obtain ⟨g,e',hb,_⟩:=h h0
    have e2:A=some ⟨b,off,none⟩:=e
    rw[e2] at e'
    injection e' with e'
    injection e' with e1
    omega
  · have hp':p∈(List.range n).map ps:=hp
    rw[List.mem_map] at hp'
    obtain ⟨j,hj,rfl⟩:=hp'
    have hj':=List.mem_range.1 hj
    obtain ⟨g,e,hb,hlt,hr,hq⟩:=h (by omega)
    exact (hq j (by omega)).2.1.lower (by omega)
  · show Tr.node kd set none ((List.range n).map ps).length 0 (((List.range n).map ps).map (Tr.strip k)) lo hi neg=_
    rw[List.length_map,List.length_range]
    congr 1
    apply List.ext_getElem
    · simp;omega
    · intro j h1 h2
      have hj:j<n:=by simpa using h1
      obtain ⟨g,e,hb,hlt,hr,hq⟩:=h (by omega)
      simp only[List.getElem_map,List.getElem_range]
      exact (hq j (by omega)).2.2
theorem Only.row (g:Nat) (w:World) (cs:Array Value):Only g w (w.setRow g cs):=⟨rfl,rfl,rfl,setRow_size w g cs,fun k hk=>setRow_other w g k cs hk⟩
def Tr.Off (g:Nat):Nat→Tr→Prop
  | 0,_=>True
  | k+1,t=>(0<t.n→∀b off,t.addr=some ⟨b,off,none⟩→b≠g)∧∀p∈t.parts,Tr.Off g k p
theorem Tr.Off.from {g base:Nat} (hb:g<base):∀(k:Nat) (t:Tr),Tr.From base k t→Tr.Off g k t
  | 0,_,_=>trivial
  | k+1,t,h=>⟨fun h0 b off e=>by have:=h.1 h0 b off e;omega,fun p hp=>Tr.Off.from hb k p (h.2 p hp)⟩
theorem Tr.Off.new {g:Nat} {w:World} (hg:w.heap.size≤g):∀(k:Nat) (t:Tr),Tr.In w k t→Tr.Off g k t
  | 0,_,_=>trivial
  | k+1,t,h=>⟨fun h0 b off e=>by
      obtain ⟨b',off',e',hlt,_⟩:=h.2.2.1 h0
      rw[e] at e'
      injection e' with e'
      injection e' with e1
      omega,fun p hp=>by
      obtain ⟨j,hj,rfl⟩:=List.getElem_of_mem hp
      exact Tr.Off.new hg k _ (h.2.2.2 j hj)⟩
theorem Tr.In.grown {w w':World} {row:Option Nat} (hg:w.grownBy w' row):∀(k:Nat) (t:Tr),(∀g,row=some g→Tr.Off g k t)→Tr.In w k t→Tr.In w' k t
  | 0,_,_,h=>h.elim
  | k+1,t,hf,h=>by
    obtain ⟨h0,hn,hc,hp⟩:=h
    refine ⟨h0,hn,fun h0=>?_,fun j hj=>Tr.In.grown hg k _ (fun g e=>(hf g e).2 _ (List.getElem_mem hj)) (hp j hj)⟩
    obtain ⟨b,off,e,hlt,hr⟩:=hc h0
    have hb:some b≠row:=fun q=>(hf b q.symm).1 h0 b off e rfl
    exact ⟨b,off,e,Nat.lt_of_lt_of_le hlt hg.size,fun j hj i v hv=>by
      have:=hr j hj i v hv
      unfold World.cell? at this ⊢
      rw[hg.block b hlt hb];exact this⟩
structure PartsOf (w:World) (base:Nat) (v:Value) (L:List Tr) (k:Nat):Prop where
  own:w.ownsRow base 27 9 v L.length (L.flatMap Tr.cs)
  ins:∀p∈L,Tr.In w k p∧Tr.From base k p∧∀g,v.ownBlock=some g→Tr.Off g k p
section
variable {w w':World} {base k:Nat} {v:Value} {L:List Tr}
theorem PartsOf.nil (w:World) (base k:Nat):PartsOf w base (.slice none 0 0) [] k:=⟨World.ownsRow_nil w base _ 9,fun p hp=>by cases hp⟩
theorem PartsOf.next (h:PartsOf w base v L k) (hb:Below w.heap.size w w'):PartsOf w' base v L k :=
  ⟨World.ownsRow.kept (row:=none) h.own (grown_none hb) (by cases hv:v.ownBlock<;>simp),fun p hp=>⟨(h.ins p hp).1.next hb,(h.ins p hp).2⟩⟩
theorem Only.grown {g:Nat} (h:Only g w w'):w.grownBy w' (some g):=⟨h.1,h.2.1,h.2.2.1,by rw[h.2.2.2.1];exact Nat.le_refl _,fun i _ hi=>h.2.2.2.2 i (fun e=>hi (by rw[e]))⟩
theorem PartsOf.only {g:Nat} (h:PartsOf w base v L k) (ho:Only g w w') (hg:g<base):PartsOf w' base v L k :=
  ⟨World.ownsRow.kept (row:=some g) h.own ho.grown (by
    cases hv:v.ownBlock with
    | none=>exact Or.inl rfl
    | some b=>right;intro e;injection e with e;have:=(h.own.lt b hv).1;omega),fun p hp=>⟨(h.ins p hp).1.only (h.ins p hp).2.1 ho hg,(h.ins p hp).2⟩⟩
theorem PartsOf.form (h:PartsOf w base v L k):∃A c,v=.slice A L.length c∧(L.length=0→¬(∃g,A=some g)→c=0):=by
  rcases h.own.2 with ⟨rfl,hn⟩ | ⟨g,cap,cur,rfl,_⟩
  · exact ⟨none,0,by rw[hn],fun _ _=>rfl⟩
  · exact ⟨_,_,rfl,fun _ q=>absurd ⟨_,rfl⟩ q⟩
theorem PartsOf.push {p:Tr} {g cap H:Nat} (h:PartsOf w base v L k) (hp:Tr.In w k p) (hf:Tr.From base k p) (hof:∀b,v.ownBlock=some b→Tr.Off b k p)
    (hown:w'.ownsRow base 27 9 (.slice (some ⟨g,0,none⟩) (L.length+1) cap) (L.length+1) (L.flatMap Tr.cs++p.cs)) (hg:w.grownBy w' v.ownBlock) (hat:v.ownBlock=some g∨g=H) (hH:w.heap.size≤H) :
    PartsOf w' base (.slice (some ⟨g,0,none⟩) (L.length+1) cap) (L++[p]) k:=by
  have key:∀q:Tr,Tr.In w k q→(∀b,v.ownBlock=some b→Tr.Off b k q)→Tr.In w' k q∧∀b,(Value.slice (some ⟨g,0,none⟩) (L.length+1) cap).ownBlock=some b→Tr.Off b k q:=fun q hi ho =>
    ⟨Tr.In.grown hg k q ho hi,fun b hb=>by
      have e:g=b:=by simpa [Value.ownBlock] using hb
      subst e
      rcases hat with hat | rfl
      · exact ho _ hat
      · exact Tr.Off.new hH k q hi⟩
  refine ⟨by rw[List.length_append,List.flatMap_append];simpa using hown,fun q hq=>?_⟩
  rw[List.mem_append] at hq
  rcases hq with hq | hq
  · have hi:=h.ins q hq
    obtain ⟨a,b⟩:=key q hi.1 hi.2.2
    exact ⟨a,hi.2.1,b⟩
  · have e:q=p:=by simpa using hq
    subst e
    obtain ⟨a,b⟩:=key q hp hof
    exact ⟨a,hf,b⟩
theorem PartsOf.cons {p:Tr} {v0:Value} {g cap H:Nat} (h:PartsOf w base v L k) (hp:Tr.In w k p) (hf:Tr.From base k p) (h0:∀b,v0.ownBlock=some b→Tr.Off b k p∧∀q∈L,Tr.Off b k q)
    (hown:w'.ownsRow base 27 9 (.slice (some ⟨g,0,none⟩) (L.length+1) cap) (L.length+1) (p.cs++L.flatMap Tr.cs)) (hg:w.grownBy w' v0.ownBlock) (hat:v0.ownBlock=some g∨g=H) (hH:w.heap.size≤H) :
    PartsOf w' base (.slice (some ⟨g,0,none⟩) (L.length+1) cap) (p::L) k:=by
  have key:∀q:Tr,Tr.In w k q→(∀b,v0.ownBlock=some b→Tr.Off b k q)→Tr.In w' k q∧∀b,(Value.slice (some ⟨g,0,none⟩) (L.length+1) cap).ownBlock=some b→Tr.Off b k q:=fun q hi ho =>
    ⟨Tr.In.grown hg k q ho hi,fun b hb=>by
      have e:g=b:=by simpa [Value.ownBlock] using hb
      subst e
      rcases hat with hat | rfl
      · exact ho _ hat
      · exact Tr.Off.new hH k q hi⟩
  refine ⟨by simpa using hown,fun q hq=>?_⟩
  rcases List.mem_cons.1 hq with rfl | hq
  · obtain ⟨a,b⟩:=key q hp (fun b hb=>(h0 b hb).1)
    exact ⟨a,hf,b⟩
  · have hi:=h.ins q hq
    obtain ⟨a,b⟩:=key q hi.1 (fun b hb=>(h0 b hb).2 q hq)
    exact ⟨a,hi.2.1,b⟩
theorem flat_at (L:List Tr):∀(j i:Nat) (h:j<L.length),i<9→(L.flatMap Tr.cs)[j*9+i]?=L[j].cs[i]?:=by
  induction L with
  | nil=>intro j i h;exact absurd h (Nat.not_lt_zero _)
  | cons t r ih =>
    intro j i h hi
    rw[List.flatMap_cons]
    cases j with
    | zero=>rw[Nat.zero_mul,Nat.zero_add,List.getElem?_append_left (by rw[Tr.cs_length];exact hi)];rfl
    | succ j =>
      rw[List.getElem?_append_right (by rw[Tr.cs_length];omega),Tr.cs_length,show (j+1)*9+i-9=j*9+i by omega,ih j i (by simpa using h) hi]
      rfl
theorem PartsOf.row {S:Nat→Tr→Tr} {parts:List Tr} {A:Option Addr} {c:Nat} (h:PartsOf w base (.slice A L.length c) L k) (hl:L.map (Tr.strip k)=parts.map (S k)) :
    ∃ps:Nat→Tr,(List.range L.length).map ps=L∧(0<L.length→∃g,A=some ⟨g,0,none⟩∧base≤g∧g<w.heap.size∧∀j (hj:j<L.length),w.rangeAt g (j*9) (ps j).cs):=by
  refine ⟨fun j=>(L[j]?).getD Tr.blank,?_,fun h0=>?_⟩
  · apply List.ext_getElem
    · simp
    · intro j h1 h2
      simp only[List.getElem_map,List.getElem_range,List.getElem?_eq_getElem h2,Option.getD_some]
  · obtain ⟨g,cap,e,hb,hlt⟩:=h.own.form h0
    injection e with e1 _ e3
    subst e1
    subst e3
    refine ⟨g,rfl,hb,hlt,fun j hj i v hv=>?_⟩
    have hi:i<9:=by have:=(List.getElem?_eq_some_iff.1 hv).1;rwa [Tr.cs_length] at this
    rw[World.ownsRow.cellAt h.own _ (by omega),flat_at L j i hj hi]
    have hv':((L[j]?).getD Tr.blank).cs[i]?=some v:=hv
    rw[List.getElem?_eq_getElem hj] at hv'
    exact hv'
end
theorem run_slice_tr (p:Tr) (w:World):(Instr.buildSlice 25 1 #[(0,.agg p.cs.toArray)]).run Tryz.prog w=.ok (.slice (some ⟨w.heap.size,0,none⟩) 1 1) (w.alloc (.cells p.cs.toArray 27)):=by kernel_rfl
section
variable {ops:Array Oper} {rest:List Oper} {o:Oper} {a:Act} {w:World} {Q:Exit→Act→World→Prop}
theorem wpList_slice_tr (hg:o.guard=none) (x:Operand) (p:Tr) (ho:o.op=.buildSlice 25 1 #[(0,x)]) (hx:a.eval x=.agg p.cs.toArray)
    (h:wpList Tryz.prog ops Q rest (a.put o.dst (.slice (some ⟨w.heap.size,0,none⟩) 1 1)) (w.alloc (.cells p.cs.toArray 27))):wpList Tryz.prog ops Q (o::rest) a w :=
  wpList_plain hg fun K hK=>by
    have hr:(execOp a.eval o).run Tryz.prog w=.ok (.value (.slice (some ⟨w.heap.size,0,none⟩) 1 1)) (w.alloc (.cells p.cs.toArray 27)):=by
      unfold execOp
      simp only[ho,List.map_toArray,List.map_cons,List.map_nil,hx,Sem.run_bind,run_slice_tr,Result.andThen_ok,Sem.run_pure]
    unfold Oper.wp
    rw[hr]
    exact hK _ _ h
end
end Go.Proofs.YtgmpfnfomgadeaaGreat
