/- Joined: BlAnswer, NormMemM, BlLooks. -/
import Derived.Test.YtgmpfnfomgadeaaGreatMab
import Derived.Test.YtgmpfnfomgadeaaGreatMag
import Derived.Test.YtgmpfnfomgadeaaGreatMar
import Derived.TacticsInMore
import Derived.Defers
import Derived.Recover
import Derived.Test.YtgmpfnfomgadeaaGreatMaf
/- norm.answerOf, where the looks are a plan's. -/
set_option linter.unusedSimpArgs false
set_option linter.unusedVariables false
set_option maxHeartbeats 4000000
set_option maxRecDepth 100000
namespace Go.Proofs.YtgmpfnfomgadeaaGreat
open Go.RowKit
theorem catch_idle (p:Addr) (w:World) :
    CallsD Tryz.prog 67 #[.pointer (some p)] .returning w fun e u' w'=>e=.returned (.tuple #[])∧u'=.returning∧w'=w:=by
  refine callsD_of_wpS Tryz.func67 rfl fun c₀ cs hu=>?_
  apply wpS_seq
  apply wpS_region
  simp[wpOpsS,go_sem,recoverD,hu,Tryz.ntmps67,Exit.thenS]
  refine wpS_cond (t:=false) (by simp[Act.eval,Array.replicate]) ?_
  simp only[Bool.false_eq_true,if_false]
  refine wpS_of_wp (wp_skip ?_)
  cases c₀
  simp_all [bodyPostS,results,Tryz.results67]
theorem results_int_cell {fn:Func} {p:Tmp} (h:fn.results=#[.cell p 3]) {tmps:Array Value} {w:World} {a:Addr} {x:Int} (hp:tmps.getD p undef=.pointer (some a)) (hc:w.cell? a=some (.int .i64 x)):(results fn tmps).run Tryz.prog w=.ok (.int .i64 x) w:=by
  unfold results
  rw[h]
  rw[Array.getD_eq_getD_getElem?] at hp
  simp[hp,hc,go_sem]
def idxF (v:Value):Value:=.func (.func 16) #[.agg #[v]] #[]
theorem idxF_eq (v:Value):∀W,(binOp .eql 32 (idxF v) .nilFunc).run Tryz.prog W=.ok (.bool false) W:=fun W=>by
  rfl
theorem bAnswer (v:Value) (L:List Tr) (t:Tr) (w:World) (hL:LksAt w v L) (hl:L.length≤1000000) (ht:Tr.Ins w 40 t):Calls Tryz.prog 51 #[idxF v,.agg t.cs.toArray] w fun e w'=>e=.returned (.int .i64 (idxS L t))∧Below w.heap.size w w':=by
  obtain ⟨w2,hw2⟩:∃w2,w2=(w.alloc (.cells t.cs.toArray 27)).alloc (.cells #[.int .i64 0] 3):=⟨_,rfl⟩
  have hB:Below w.heap.size w w2:=by rw[hw2];exact ((Below.refl _ _).alloc (Nat.le_refl _) _).alloc (by simp) _
  have hA:At ((w.alloc (.cells t.cs.toArray 27)).alloc (.cells #[.int .i64 0] 3)) w.heap.size 27 t.cs.toArray:=(At.new w _ _).alloc _
  have hR:At w2 (w.heap.size+1) 3 #[.int .i64 0]:=by rw[hw2];exact at_new' (w.alloc (.cells t.cs.toArray 27)) (w.heap.size+1) 3 (by simp)
  have HI:=Lib.hid (tIndex v L t w2 (hL.next hB) hl (ht.next hB))
  have HB:=Lib.hid hB
  have HW:=Lib.hid hw2
  have hq:=idxF_eq v
  have hg:∀W,(eqGuard .eql 32 (.tmp 5) (.const .nilFunc) (idxF v) .nilFunc).run Tryz.prog W=.ok () W:=fun W=>rfl
  have hmf:∀(fn:Fn) (first cap:Array Value) (w:World),(Instr.makeFunc fn first cap).run Tryz.prog w=.ok (.func fn first cap) w:=fun _ _ _ _=>rfl
  clear hB hL ht hw2
  unfold idxF at hq hg ⊢
  go_enter_defers Tryz.func51,Tryz.ntmps51
  go_wp2_with (first
    | (with_reducible show wpList _ _ _ (⟨some 9,.load 27 _,_,_,_,_⟩::_) _ _
       refine wpList_load_row rfl 27 _ rfl w.heap.size rfl 27 t.cs.toArray (0,0) _ hA Tryz.underlying27 rfl (by rw[List.size_toArray,Tr.cs_length];kernel_rfl) ?_)
    | fail)
  rw[←HW.out]
  refine HI.out.mono ?_
  rintro e w3 ⟨rfl,hb⟩
  have HB3:=Lib.hid (HB.out.trans (hb.mono HB.out.size))
  have HR3:=Lib.hid (At.below hR hb hR.lt)
  clear hb
  have r0:=HR3.out.cell 0
  have f0:=HR3.out.free 0
  go_wp2_with fail
  obtain ⟨W,hW⟩:∃W,W=w3.setCell ⟨w.heap.size+1,0,none⟩ (.int .i64 (idxS L t)):=⟨_,rfl⟩
  have hr:W.cell? ⟨w.heap.size+1,0,none⟩=some (.int .i64 (idxS L t)):=by
    rw[hW]
    exact (HR3.out.set 0 (.int .i64 (idxS L t))).cell 0
  have hBW:Below w.heap.size w W:=by
    rw[hW]
    exact HB3.out.setCell (by simp) _
  rw[←hW]
  clear hW hq hg hmf HI HW hA hR r0 f0 HR3 HB3 HB
  refine leaves_cons (f:=67) (args:=#[.pointer (some ⟨w.heap.size+1,0,none⟩)]) (by simp) (by simp[go_sem]) ?_
  refine (catch_idle ⟨w.heap.size+1,0,none⟩ _).mono ?_
  rintro e u' w'' ⟨rfl,rfl,rfl⟩
  exact ⟨.int .i64 (idxS L t),results_int_cell (a:=⟨w.heap.size+1,0,none⟩) rfl rfl hr,rfl,hBW⟩
end Go.Proofs.YtgmpfnfomgadeaaGreat

/- The members of nodes, found one by one: mathematics; no program is named. -/
set_option linter.unusedSimpArgs false
set_option linter.unusedVariables false
namespace Go.Proofs.YtgmpfnfomgadeaaGreat
open Go.RowKit
structure MemInv (ns:List Nd) (k:Int) (l s T fd:List Int):Prop where
  nd:s.Nodup
  sin:∀z∈s,isIn ns z
  tin:∀z∈T,isIn ns z
  fnd:fd.Nodup
  ffr:∀y∈fd,y∈s∧kd ns y≠k
  leaf:∀x∈s,kd ns x≠k→x∈fd
  node:∀x∈s,kd ns x=k→(ka ns x∈s∨ka ns x∈T)∧(kb ns x∈s∨kb ns x∈T)
  all:∀x∈l,x∈s∨x∈T
  snd:∀z,z∈s∨z∈T→∀y∈mem ns k z,∃x∈l,y∈mem ns k x
theorem MemInv.start {ns:List Nd} {k:Int} {l:List Int} (hl:∀x∈l,isIn ns x):MemInv ns k l [] l [] :=
  ⟨List.nodup_nil,(by intro z h;cases h),hl,List.nodup_nil,(by intro z h;cases h),(by intro z h;cases h),(by intro z h;cases h),fun x h=>Or.inr h,fun z h y hy=>by
    rcases h with h | h
    · cases h
    · exact ⟨z,h,hy⟩⟩
theorem MemInv.skip {ns:List Nd} {k:Int} {l s T fd:List Int} {x:Int} (h:MemInv ns k l s (T++[x]) fd) (hx:x∈s):MemInv ns k l s T fd:=by
  have sub:∀z,z∈s∨z∈T++[x]→z∈s∨z∈T:=fun z q=>by
    rcases q with q | q
    · exact Or.inl q
    · rcases List.mem_append.1 q with q | q
      · exact Or.inr q
      · rw[List.mem_singleton.1 q];exact Or.inl hx
  have sup:∀z,z∈s∨z∈T→z∈s∨z∈T++[x]:=fun z q=>by
    rcases q with q | q
    · exact Or.inl q
    · exact Or.inr (List.mem_append_left _ q)
  exact ⟨h.nd,h.sin,fun z hz=>h.tin z (List.mem_append_left _ hz),h.fnd,h.ffr,h.leaf,fun y hy hk=>⟨sub _ (h.node y hy hk).1,sub _ (h.node y hy hk).2⟩,fun y hy=>sub _ (h.all y hy),fun z hz=>h.snd z (sup z hz)⟩
section
variable {ns:List Nd} (hf:FineN ns) {k:Int} (hk:k=4∨k=5)
include hf hk
theorem MemInv.nodeStep {l s T fd:List Int} {x:Int} (h:MemInv ns k l s (T++[x]) fd) (hx:x ∉ s) (e:kd ns x=k):MemInv ns k l (x::s) (T++[ka ns x,kb ns x]) fd:=by
  have hxi:isIn ns x:=h.tin x (by simp)
  obtain ⟨⟨a0,_⟩,b0,_⟩:=in_two hf hxi (by omega)
  have sub:∀z,z∈s∨z∈T++[x]→z∈x::s∨z∈T++[ka ns x,kb ns x]:=fun z q=>by
    rcases q with q | q
    · exact Or.inl (List.mem_cons_of_mem _ q)
    · rcases List.mem_append.1 q with q | q
      · exact Or.inr (List.mem_append_left _ q)
      · rw[List.mem_singleton.1 q];exact Or.inl (by simp)
  refine ⟨List.nodup_cons.2 ⟨hx,h.nd⟩,fun z hz=>?_,fun z hz=>?_,h.fnd,fun y hy=>⟨List.mem_cons_of_mem _ (h.ffr y hy).1,(h.ffr y hy).2⟩,fun y hy hn=>?_,fun y hy hn=>?_,fun y hy=>sub _ (h.all y hy),fun z hz y hy=>?_⟩
  · rcases List.mem_cons.1 hz with rfl | hz
    · exact hxi
    · exact h.sin z hz
  · rcases List.mem_append.1 hz with hz | hz
    · exact h.tin z (List.mem_append_left _ hz)
    · simp at hz
      rcases hz with rfl | rfl
      · exact a0
      · exact b0
  · rcases List.mem_cons.1 hy with rfl | hy
    · exact absurd e hn
    · exact h.leaf y hy hn
  · rcases List.mem_cons.1 hy with rfl | hy
    · exact ⟨Or.inr (List.mem_append_right _ (by simp)),Or.inr (List.mem_append_right _ (by simp))⟩
    · exact ⟨sub _ (h.node y hy hn).1,sub _ (h.node y hy hn).2⟩
  · have hx':=h.snd x (Or.inr (by simp))
    rw[mem_node hf hk hxi e] at hx'
    rcases hz with hz | hz
    · rcases List.mem_cons.1 hz with rfl | hz
      · exact h.snd z (Or.inr (by simp)) y hy
      · exact h.snd z (Or.inl hz) y hy
    · rcases List.mem_append.1 hz with hz | hz
      · exact h.snd z (Or.inr (List.mem_append_left _ hz)) y hy
      · simp at hz
        rcases hz with rfl | rfl
        · exact hx' y (List.mem_append_left _ hy)
        · exact hx' y (List.mem_append_right _ hy)
omit hf hk in
theorem MemInv.leafStep {l s T fd:List Int} {x:Int} (h:MemInv ns k l s (T++[x]) fd) (hx:x ∉ s) (e:kd ns x≠k):MemInv ns k l (x::s) T (fd++[x]):=by
  have hxi:isIn ns x:=h.tin x (by simp)
  have sub:∀z,z∈s∨z∈T++[x]→z∈x::s∨z∈T:=fun z q=>by
    rcases q with q | q
    · exact Or.inl (List.mem_cons_of_mem _ q)
    · rcases List.mem_append.1 q with q | q
      · exact Or.inr q
      · rw[List.mem_singleton.1 q];exact Or.inl (by simp)
  refine ⟨List.nodup_cons.2 ⟨hx,h.nd⟩,fun z hz=>?_,fun z hz=>h.tin z (List.mem_append_left _ hz),?_,fun y hy=>?_,fun y hy hn=>?_,fun y hy hn=>?_,fun y hy=>sub _ (h.all y hy),fun z hz y hy=>?_⟩
  · rcases List.mem_cons.1 hz with rfl | hz
    · exact hxi
    · exact h.sin z hz
  · refine List.nodup_append.2 ⟨h.fnd,by simp,fun a ha b hb=>?_⟩
    rw[List.mem_singleton.1 hb]
    intro q
    rw[q] at ha
    exact hx (h.ffr x ha).1
  · rcases List.mem_append.1 hy with hy | hy
    · exact ⟨List.mem_cons_of_mem _ (h.ffr y hy).1,(h.ffr y hy).2⟩
    · rw[List.mem_singleton.1 hy];exact ⟨by simp,e⟩
  · rcases List.mem_cons.1 hy with rfl | hy
    · exact List.mem_append_right _ (by simp)
    · exact List.mem_append_left _ (h.leaf y hy hn)
  · rcases List.mem_cons.1 hy with rfl | hy
    · exact absurd hn e
    · exact ⟨sub _ (h.node y hy hn).1,sub _ (h.node y hy hn).2⟩
  · rcases hz with hz | hz
    · rcases List.mem_cons.1 hz with rfl | hz
      · exact h.snd z (Or.inr (by simp)) y hy
      · exact h.snd z (Or.inl hz) y hy
    · exact h.snd z (Or.inr (List.mem_append_left _ hz)) y hy
theorem MemInv.done {l s fd:List Int} (h:MemInv ns k l s [] fd):fd.Nodup∧∀y,y∈fd↔∃x∈l,y∈mem ns k x:=by
  have up:∀(n:Nat) (x:Int),x.toNat≤n→x∈s→∀y∈mem ns k x,y∈fd:=by
    intro n
    induction n with
    | zero =>
      intro x hn hx y hy
      by_cases e:kd ns x=k
      · have h1:=(in_two hf (h.sin x hx) (by omega)).1
        have h2:=h.sin x hx
        unfold isIn at h1 h2
        omega
      · rw[mem_leaf e,List.mem_singleton] at hy
        rw[hy];exact h.leaf x hx e
    | succ n ih =>
      intro x hn hx y hy
      by_cases e:kd ns x=k
      · have h1:=in_two hf (h.sin x hx) (by omega)
        have h2:=h.sin x hx
        unfold isIn at h1 h2
        have h3:=h.node x hx e
        have ha:ka ns x∈s:=by
          rcases h3.1 with q | q
          · exact q
          · cases q
        have hb:kb ns x∈s:=by
          rcases h3.2 with q | q
          · exact q
          · cases q
        rw[mem_node hf hk (h.sin x hx) e] at hy
        rcases List.mem_append.1 hy with hy | hy
        · exact ih _ (by omega) ha y hy
        · exact ih _ (by omega) hb y hy
      · rw[mem_leaf e,List.mem_singleton] at hy
        rw[hy];exact h.leaf x hx e
  refine ⟨h.fnd,fun y=>⟨fun hy=>?_,?_⟩⟩
  · obtain ⟨h1,h2⟩:=h.ffr y hy
    exact h.snd y (Or.inl h1) y (by rw[mem_leaf h2];simp)
  · rintro ⟨x,hx,hy⟩
    rcases h.all x hx with q | q
    · exact up _ x (Nat.le_refl _) q y hy
    · cases q
end
def unseen (n:Nat) (p:Int→Bool):Nat:=((List.range n).filter (fun (j:Nat)=>!p (j:Int))).length
theorem unseen_less {n:Nat} {s:List Int} {x:Int} (h0:0≤x) (h1:x<(n:Int)) (hx:x ∉ s):unseen n (fun y=>decide (y∈x::s))+1≤unseen n (fun y=>decide (y∈s)):=by
  have key:∀(l:List Nat),((l.filter (fun (j:Nat)=>!decide ((j:Int)∈x::s))).length+(if x.toNat∈l then 1 else 0)≤(l.filter (fun (j:Nat)=>!decide ((j:Int)∈s))).length):=by
    intro l
    induction l with
    | nil=>simp
    | cons a l ih =>
      by_cases e:(a:Int)=x
      · have ea:x.toNat=a:=by omega
        have h2:decide ((a:Int)∈x::s)=true:=by rw[e];simp
        have h3:decide ((a:Int)∈s)=false:=by rw[e];simp[hx]
        have h5:x.toNat∈a::l:=by rw[ea];simp
        simp only[List.filter_cons,h2,h3,Bool.not_true,Bool.not_false,if_true,Bool.false_eq_true,if_false,List.length_cons,h5]
        have:(l.filter (fun (j:Nat)=>!decide ((j:Int)∈x::s))).length≤(l.filter (fun (j:Nat)=>!decide ((j:Int)∈s))).length:=by omega
        omega
      · have ea:x.toNat≠a:=by omega
        have h2:decide ((a:Int)∈x::s)=decide ((a:Int)∈s):=by simp[e]
        have h4:(if x.toNat∈a::l then 1 else 0)=(if x.toNat∈l then 1 else 0):=by simp[ea]
        rw[h4]
        cases q:decide ((a:Int)∈s) with
        | true =>
          simp only[List.filter_cons,h2,q,Bool.not_true,Bool.false_eq_true,if_false]
          exact ih
        | false =>
          simp only[List.filter_cons,h2,q,Bool.not_false,if_true,List.length_cons]
          omega
  have:=key (List.range n)
  rw[if_pos (List.mem_range.2 (by omega))] at this
  exact this
end Go.Proofs.YtgmpfnfomgadeaaGreat

/- norm.numbersOfLooks, where the looks are a plan's. -/
set_option linter.unusedSimpArgs false
set_option linter.unusedVariables false
set_option maxHeartbeats 8000000
set_option maxRecDepth 100000
namespace Go.Proofs.YtgmpfnfomgadeaaGreat
open Go.RowKit Go.Shelf
def numsS (L:List Tr):Nat→Tr→List Int
  | 0,_=>[]
  | k+1,t=>if 8≤t.kind then [idxS L t] else t.parts.flatMap (numsS L k)
def numOk (L:List Tr):Nat→Tr→Prop
  | 0,_=>True
  | k+1,t=>if 8≤t.kind then 0≤idxS L t∧idxS L t<4 else ∀p∈t.parts,numOk L k p
theorem nums_look {L:List Tr} {k:Nat} {t:Tr} (h:8≤t.kind):numsS L (k+1) t=[idxS L t]:=by
  show (if 8≤t.kind then _ else _)=_
  rw[if_pos h]
theorem nums_parts {L:List Tr} {k:Nat} {t:Tr} (h:¬8≤t.kind):numsS L (k+1) t=t.parts.flatMap (numsS L k):=by
  show (if 8≤t.kind then _ else _)=_
  rw[if_neg h]
theorem numOk_look {L:List Tr} {k:Nat} {t:Tr} (h:8≤t.kind) (ho:numOk L (k+1) t):0≤idxS L t∧idxS L t<4:=by
  have:(if 8≤t.kind then 0≤idxS L t∧idxS L t<4 else ∀p∈t.parts,numOk L k p):=ho
  rwa [if_pos h] at this
theorem numOk_part {L:List Tr} {k:Nat} {t:Tr} (h:¬8≤t.kind) (ho:numOk L (k+1) t):∀p∈t.parts,numOk L k p:=by
  have:(if 8≤t.kind then 0≤idxS L t∧idxS L t<4 else ∀p∈t.parts,numOk L k p):=ho
  rwa [if_neg h] at this
theorem bareT_two (t:Tr):bareT (bareT t)=bareT t:=by cases t;rfl
theorem idxS_bare (L:List Tr) (t:Tr):idxS L (bareT t)=idxS L t:=by
  unfold idxS
  rw[bareT_two]
theorem bareRowN (t:Tr):(bareT t).cs.toArray=(t.cs.set 8 (.bool false)).toArray:=by cases t;rfl
def NumsIs (v:Value) (L:List Tr) (k:Nat):Prop:=∀(t:Tr) (w0 w:World) (v0:Value) (l:List Int),Tr.Ins w0 k t→formedS k t=true→numOk L k t→LksAt w0 v L→Below w0.heap.size w0 w→IdRow w w0.heap.size v0 l→l.length+(numsS L k t).length≤1000000 →
  Calls Tryz.prog 41 #[v0,.agg t.cs.toArray,idxF v] w fun e w'=>∃v',e=.returned (.tuple #[v',.bool true])∧IdRow w' w0.heap.size v' (l++numsS L k t)∧Below w0.heap.size w0 w'
theorem numsLook (v:Value) (L:List Tr) (hl:L.length≤1000000) (k:Nat) (hk40:k+1≤40) (t:Tr) (w0 w:World) (v0:Value) (l:List Int) (hk:8≤t.kind) (h:Tr.Ins w0 (k+1) t) (hkd:t.kind≤11) (ho:0≤idxS L t∧idxS L t<4) (hL:LksAt w0 v L) (hb0:Below w0.heap.size w0 w) (hr:IdRow w w0.heap.size v0 l) (hll:l.length+1≤1000000) :
    Calls Tryz.prog 41 #[v0,.agg t.cs.toArray,idxF v] w fun e w'=>∃v',e=.returned (.tuple #[v',.bool true])∧IdRow w' w0.heap.size v' (l++[idxS L t])∧Below w0.heap.size w0 w':=by
  obtain ⟨i0,hi0,hi1,hi2,hi3⟩:=info_parts info_intR
  have hA:At (w.alloc (Obj.cells t.cs.toArray 27)) w.heap.size 27 t.cs.toArray:=At.new _ _ _
  obtain ⟨c0,c5,c6,c7,c8⟩:=At.tr_cell hA
  have hk4:t.kind=8∨t.kind=9∨t.kind=10∨t.kind=11:=by omega
  obtain ⟨cs1,hcs1⟩:∃cs1,cs1=(t.cs.set 8 (.bool false)).toArray:=⟨_,rfl⟩
  have HA1:Hid (At (w.alloc (.cells cs1 27)) w.heap.size 27 cs1):=Lib.hid (At.new _ _ _)
  have hB1:Below w.heap.size w (w.alloc (.cells cs1 27)):=(Below.refl _ _).alloc (Nat.le_refl _) _
  have HBz:Hid (Below w0.heap.size w0 (w.alloc (.cells cs1 27))):=Lib.hid (hb0.trans (hB1.mono hb0.size))
  have HRz:=Lib.hid (hr.next hB1)
  have HNa:=bAnswer v L (bareT t) (w.alloc (.cells cs1 27)) (hL.next HBz.out) hl (bare_ins ((h.next HBz.out).upto hk40))
  rw[bareRowN,←hcs1,idxS_bare] at HNa
  have HNa:=Lib.hid HNa
  rw[show cs1=t.cs.toArray.setIfInBounds 8 (.bool false) by rw[hcs1];simp] at HA1
  obtain ⟨x,hx⟩:∃x,x=idxS L t:=⟨_,rfl⟩
  rw[←hx] at HNa ho ⊢
  obtain ⟨ho1,ho2⟩:=ho
  have hZ0:=hb0.size
  obtain ⟨Q,hQ⟩:∃Q,Q=idxF v:=⟨_,rfl⟩
  rw[←hQ] at HNa ⊢
  clear h hL hkd hk c5 c6 c7 hr hx hb0 hB1 hQ
  rcases hk4 with hk | hk | hk | hk
  all_goals
    rw[hk] at c0
    go_enter Tryz.func41,Tryz.ntmps41
    go_wp2_with (first
      | (with_reducible show wpList _ _ _ (⟨some 21,.load _ _,_,_,_,_⟩::_) _ _
         refine wpList_load_row rfl 27 _ rfl w.heap.size rfl 27 (t.cs.toArray.setIfInBounds 8 (.bool false)) (0,0) _ HA1.out Tryz.underlying27 rfl (by rw[Array.size_setIfInBounds];kernel_rfl) ?_)
      | fail)
    rw[←hcs1]
    refine HNa.out.mono ?_
    rintro e w1 ⟨rfl,hb1⟩
    have HB2:=Lib.hid (HBz.out.trans (hb1.mono HBz.out.size))
    have HR2:=Lib.hid (HRz.out.next hb1)
    clear hb1
    obtain ⟨w2,hw2⟩:∃w2,w2=w1.alloc (.cells #[.int .i64 x] 3):=⟨_,rfl⟩
    have hb2:Below w1.heap.size w1 w2:=by rw[hw2];exact (Below.refl _ _).alloc (Nat.le_refl _) _
    have HB3:=Lib.hid (HB2.out.trans (hb2.mono HB2.out.size))
    have HR3:=Lib.hid (HR2.out.next hb2)
    have HW2:=Lib.hid hw2
    have HZ3:Hid (w0.heap.size≤w2.heap.size):=Lib.hid HB3.out.size
    rw[hw2] at HR3 HZ3
    clear hb2 hw2
    go_wp2_with (first
      | (at_builtin
         refine wpList_append_own_at _ rfl _ _ _ rfl w0.heap.size 3 i0 _ 1 8 Tryz.underlying73 hi0 hi1 hi2 hi3 rfl (by omega) v0 _ _ rfl HR3.out ⟨_,0,none⟩ 1 1 [.int .i64 x] rfl rfl (cell_one_new _ _ _) ?c2 ?c3 ?c4 ?c5 ?_
         case c2=>simp[Value.oneCell']
         case c3=>unfold maxLen;omega
         case c4=>omega
         case c5=>exact HZ3.out
         intro v' w7 hown7 hg7 _ hat7)
      | fail)
    rw[←HW2.out] at hg7
    have hr9:IdRow w7 w0.heap.size v' (l++[x]):=by
      unfold IdRow idL
      have:=hown7
      unfold idL at this
      simpa using this
    have hv0:∀c,v0.ownBlock=some c→w0.heap.size≤c:=fun c e=>(HRz.out.lt e).1
    have hb7:Below w0.heap.size w0 w7:=⟨hg7.os.trans HB3.out.os,hg7.tape.trans HB3.out.tape,hg7.output.trans HB3.out.output,Nat.le_trans HB3.out.size hg7.size,fun b hb=>(hg7.block b (Nat.lt_of_lt_of_le hb HB3.out.size) (fun e=>by have:=hv0 b e.symm;omega)).trans (HB3.out.block b hb)⟩
    go_ret2
    exact ⟨v',rfl,hr9,hb7⟩
end Go.Proofs.YtgmpfnfomgadeaaGreat
