/- norm.joined: members, put together by their numbers. -/
import Derived.Test.YtgmpfnfomgadeaaGreatMau
import Derived.Test.YtgmpfnfomgadeaaGreatMax
import Derived.Test.YtgmpfnfomgadeaaGreatMag
import Derived.Test.YtgmpfnfomgadeaaGreatMay
set_option linter.unusedSimpArgs false
set_option linter.unusedVariables false
set_option maxHeartbeats 16000000
set_option maxRecDepth 100000
namespace Go.Proofs.YtgmpfnfomgadeaaGreat
open Go.RowKit Go.Shelf
attribute [local go_sem] Oper.semAt_some
section
variable {AA:World→Value→List Nd→(Nat→Prop)→Prop}
def JoinedPost (AA:World→Value→List Nd→(Nat→Prop)→Prop) (w:World) (a v:Value) (ns:List Nd) (F:Nat→Prop) (k:Int) (sl:List Int) (e:Ending) (w':World):Prop :=
  ∃(r:Int) (ns':List Nd) (F':Nat→Prop),e=.returned (.int .i64 r)∧AA w' a ns' F'∧(∀b,F' b→F b∨w.heap.size≤b)∧OffF (fun b=>F b∨v.ownBlock=some b) w w'∧StepR ns k sl 0 ns' r
def sorted (l:List Int):List Int:=l.mergeSort fun x y=>decide (x≤y)
structure JI (AB:World→Value→List Nd→(Nat→Prop)→Prop) (w:World) (a:Value) (ns:List Nd) (F:Nat→Prop) (k:Int) (sl zs:List Int) (p B g bi:Nat) (sv:Value) (pre:List (Nat×Num)) (W:World) (ns':List Nd) (F':Nat→Prop) (r:Int):Prop where
  ab:AB W a ns' F'
  low:∀b,F' b→F b∨B≤b
  off:OffF (fun b=>F b∨g=b) w W
  int:I64 r
  few:ns'.length≤ns.length+pre.length
  box:At W w.heap.size 38 #[a]
  kind:At W (w.heap.size+1) 3 #[.int .i64 k]
  id:At W bi 3 #[.int .i64 r]
  size:B≤W.heap.size
  right:pre=backTo zs pre.length→StepR ns k sl (p-pre.length) ns' r
theorem at_kept {W W':World} {b:Nat} {t:TypeId} {cs:Array Value} {row:Option Nat} (h:At W b t cs) (hg:W.grownBy W' row) (hr:∀r,row=some r→∃o:Obj,W.heap[r]?=some o∧o.isCells=false):At W' b t cs :=
  (hg.block b h.lt (fun e=>by
    obtain ⟨o,ho,hc⟩:=hr b e.symm
    rw[h] at ho
    cases ho
    cases hc)).trans h
theorem nJoined (S:ArenaMap AA) {w:World} {a v:Value} {ns:List Nd} {F:Nat→Prop} {B0:Nat} (k:Int) (hk:k=4∨k=5) (l:List Int) (h:AA w a ns F) (hc:Canon ns) (hv:IdRow w B0 v l) (h0:0<l.length) (hvF:∀b,v.ownBlock=some b→¬F b) (hg:GoodL ns k (sorted l)) (hroom:ns.length+l.length+3≤20000) :
    Calls Tryz.prog 76 #[a,.int .i64 k,v] w (JoinedPost AA w a v ns F k (sorted l)):=by
  obtain ⟨p,hp⟩:∃p,l.length=p+1:=⟨l.length-1,by omega⟩
  have hsl:(sorted l).length=p+1:=by unfold sorted;rw[List.length_mergeSort,hp]
  obtain ⟨g,cap,ev,_⟩:=hv.form h0
  rw[hp] at ev
  subst ev
  obtain ⟨w2,hw2⟩:∃w2,w2=(w.alloc (.cells #[a] 38)).alloc (.cells #[.int .i64 k] 3):=⟨_,rfl⟩
  have hB2:Below w.heap.size w w2:=by rw[hw2];exact ((Below.refl _ _).alloc (Nat.le_refl _) _).alloc (by simp) _
  have hs2:w2.heap.size=w.heap.size+2:=by rw[hw2];simp
  have HSo:=Lib.hid (nSort (hv.next hB2) h0 (by omega))
  have HW2:=Lib.hid hw2
  rw[hw2] at HSo
  have HA:=Lib.hid h
  have HC:=Lib.hid hc
  have HV:=Lib.hid hv
  have HvF:=Lib.hid hvF
  have HG:=Lib.hid hg
  have HRoom:=Lib.hid hroom
  have HSl:=Lib.hid hsl
  have HB2:=Lib.hid hB2
  have HS2:=Lib.hid hs2
  have HK:=Lib.hid hk
  have HP:=Lib.hid hp
  obtain ⟨gp,rfl⟩:=S.ptr h
  clear h hc hv hvF hg hroom hsl hB2 hw2 hs2 hk h0
  have hpz:(0:Int)≤(p:Int):=by omega
  have hpb:p≤20000:=by have:=HRoom.out;omega
  have hpw:IntKind.i64.wrap ((p:Int)+1-1)=(p:Int):=by rw[IntWalk.i64_left,IntWalk.wrap64_in _ (by omega)];omega
  refine (callsIn_wide (n:=6)).1 ?_
  refine callsIn_of_wp_marks Tryz.func76 rfl trivial ?_ rfl
  simp only[Tryz.ntmps76,List.size_toArray,List.length_cons,List.length_nil,Nat.reduceAdd,Nat.reduceSub,Array.replicate_succ,Array.replicate_zero,List.push_toArray,List.append_toArray,List.nil_append,List.cons_append]
  gi_wp2_with fail
  refine ⟨trivial,?_⟩
  refine (callsIn_wide.2 HSo.out).mono ?_
  rintro e w3 ⟨rfl,hr3,hg3⟩
  have hr3:IdRow w3 B0 (.slice (some ⟨g,0,none⟩) (p+1) cap) (sorted l):=hr3
  rw[←HW2.out] at hg3
  have hg3:w2.grownBy w3 (some g):=hg3
  obtain ⟨g',cap',eg,hcs⟩:=hr3.form (by rw[HSl.out];omega)
  obtain rfl:g=g':=by
    injection eg with eg _ _
    injection eg with eg
    injection eg
  clear eg
  have hx3:=hcs p (by rw[HSl.out];omega)
  have HGs:=Lib.hid (hr3.lt (c:=g) rfl)
  have HGv:=Lib.hid (HV.out.lt (c:=g) rfl)
  obtain ⟨x0,hx0⟩:∃x0,x0=(sorted l)[p]'(by rw[HSl.out];omega):=⟨_,rfl⟩
  rw[←hx0] at hx3
  have HX0:=Lib.hid hx0
  have HR3:=Lib.hid hr3
  have HCs:=Lib.hid hcs
  have HG3:=Lib.hid hg3
  have hcp:(p:Int)≤(cap:Int):=by
    obtain ⟨_,q⟩:=hr3
    rcases q with ⟨q,_⟩ | ⟨_,_,_,q,_,_,q1,_⟩
    · cases q
    · injection q with q1' q2' q3'
      rw[HSl.out,←q3'] at q1
      omega
  have hpn:(p:Int)<(p:Int)+1:=by omega
  obtain ⟨w5,hw5⟩:∃w5,w5=(w3.alloc (.cells #[.int .i64 x0] 3)).alloc (.cells #[.slice (some ⟨g,0,none⟩) p cap] 73):=⟨_,rfl⟩
  have HW5:=Lib.hid hw5
  have HBk:Hid (CallsIn Fence.wide 5 Tryz.prog 70 #[.slice (some ⟨g,0,none⟩) p cap] (w3.alloc (.cells #[.int .i64 x0] 3)) fun e w'=>e=.returned (.func (.func 86) #[] #[.pointer (some ⟨w3.heap.size+1,0,none⟩)])∧w'=w5):=Lib.hid (by
    have:=back_in Fence.wide 5 trivial rfl (.slice (some ⟨g,0,none⟩) p cap) (some ⟨g,0,none⟩) p cap rfl (w3.alloc (.cells #[.int .i64 x0] 3))
    rw[World.size_alloc] at this
    rw[hw5];exact this)
  clear hr3 hcs hg3 hx0 hw5
  gi_wp2_with fail
  refine ⟨trivial,?_⟩
  refine HBk.out.mono ?_
  rintro e w6 ⟨rfl,rfl⟩
  gi_wp2_with fail
  have HSz:Hid (w2.heap.size≤w3.heap.size):=Lib.hid HG3.out.size
  have hs5:w6.heap.size=w3.heap.size+2:=by rw[HW5.out];simp
  have HS5:=Lib.hid hs5
  obtain ⟨zs,hzs⟩:∃zs,zs=(sorted l).take p:=⟨_,rfl⟩
  have hzl:zs.length=p:=by rw[hzs,List.length_take,HSl.out];omega
  have hzj:∀j (hj:j<p),zs[j]?.getD 0=(sorted l)[j]'(by rw[HSl.out];omega):=fun j hj=>by
    have e:zs[j]?=(sorted l)[j]?:=by rw[hzs];exact List.getElem?_take_of_lt hj
    rw[e,List.getElem?_eq_getElem (by rw[HSl.out];omega)];rfl
  have hzI:∀j,j<zs.length→I64 (zs[j]?.getD 0):=fun j hj=>by
    rw[hzl] at hj
    rw[hzj j hj]
    have:=(HG.out.mem _ (List.getElem_mem (show j<(sorted l).length by rw[HSl.out];omega))).1
    have h2:=HRoom.out
    unfold isIn at this
    unfold I64
    omega
  have hkI:I64 k:=by have:=HK.out;unfold I64;omega
  have hns:0<ns.length:=by
    have:=(HG.out.mem x0 (by rw[HX0.out];exact List.getElem_mem _)).1
    unfold isIn at this
    omega
  obtain ⟨AB,m,SB,hAB,hm,hup,hmB⟩:=S.part HA.out hns
  have HFl:Hid (∀b,F b→b<w.heap.size):=Lib.hid (SB.low hAB)
  have HGn:Hid (¬F g):=Lib.hid (HvF.out g rfl)
  have hat:∀b,b<w2.heap.size→b≠g→w6.heap[b]?=w2.heap[b]?:=fun b hb hn=>by
    rw[HW5.out]
    rw[Below.heap_alloc _ _ _ (by rw[World.size_alloc];have:=HSz.out;omega),Below.heap_alloc _ _ _ (by have:=HSz.out;omega)]
    exact HG3.out.block b hb (fun e=>by injection e with e;exact hn e)
  have hAB6:AB w6 (.pointer (some ⟨gp,0,none⟩)) ns F:=SB.keep hAB (fun b hb=>by
    have h1:=HFl.out b hb
    rw[hat b (by have:=HS2.out;omega) (fun e=>HGn.out (by rw[←e];exact hb))]
    exact HB2.out.block b h1)
  have hO6:OffF (fun b=>F b∨g=b) w w6:=by
    rw[HW5.out]
    exact ((((OffF.of HB2.out).grown HG3.out (fun b e=>by injection e with e;exact Or.inl (Or.inr e))).then ((Below.refl _ _).alloc (Nat.le_refl _) _)).then ((Below.refl _ _).alloc (Nat.le_refl _) _))
  have hbox:At w6 w.heap.size 38 #[.pointer (some ⟨gp,0,none⟩)]:=by
    refine (hat _ (by have:=HS2.out;omega) (fun e=>by have:=HGv.out;omega)).trans ?_
    rw[HW2.out];exact (At.new w _ _).alloc _
  have hknd:At w6 (w.heap.size+1) 3 #[.int .i64 k]:=by
    refine (hat _ (by have:=HS2.out;omega) (fun e=>by have:=HGv.out;omega)).trans ?_
    have:=At.new (w.alloc (.cells #[.pointer (some ⟨gp,0,none⟩)] 38)) 3 #[.int .i64 k]
    rw[World.size_alloc] at this
    rw[HW2.out];exact this
  have hid6:At w6 w3.heap.size 3 #[.int .i64 x0]:=by rw[HW5.out];exact (At.new _ _ _).alloc _
  have hx0I:I64 x0:=by
    have:=(HG.out.mem x0 (by rw[HX0.out];exact List.getElem_mem _)).1
    have h2:=HRoom.out
    unfold isIn at this
    unfold I64
    omega
  have hJ0:JI AB w (.pointer (some ⟨gp,0,none⟩)) ns F k (sorted l) zs p w6.heap.size g w3.heap.size (.slice (some ⟨g,0,none⟩) (p+1) cap) [] w6 ns F x0 :=
    ⟨hAB6,fun b q=>Or.inl q,hO6,hx0I,Nat.le_refl _,hbox,hknd,hid6,Nat.le_refl _,fun _=>by
      have:=StepR.start HC.out HK.out HG.out (by intro e;have:=HSl.out;rw[e] at this;simp at this) p HSl.out
      rw[←HX0.out] at this
      exact this⟩
  have hgs:g<w6.heap.size:=by have:=HGs.out;omega
  have hBs:w6.cell? ⟨w3.heap.size+1,0,none⟩=some (.slice (some ⟨g,0,none⟩) zs.length cap):=by
    have:=(At.new (w3.alloc (.cells #[.int .i64 x0] 3)) 73 #[.slice (some ⟨g,0,none⟩) p cap]).cell 0
    rw[World.size_alloc] at this
    rw[HW5.out,hzl];exact this
  have hcz:∀j,j<zs.length→w6.cell? ⟨g,j,none⟩=some (.int .i64 (zs[j]?.getD 0)):=fun j hj=>by
    rw[hzl] at hj
    rw[hzj j hj,HW5.out]
    have:=HCs.out j (by rw[HSl.out];omega)
    exact (World.cell?_of_block (a:=⟨g,j,none⟩) ((Below.heap_alloc _ _ g (by rw[World.size_alloc];have:=HGs.out;omega)).trans (Below.heap_alloc _ _ g (by have:=HGs.out;omega)))).trans this
  have HJ0:=Lib.hid hJ0
  have hI:OwnFrom w6.heap.size (fun (pre:List (Nat×Num)) W=>∃ns' F' r,JI AB w (.pointer (some ⟨gp,0,none⟩)) ns F k (sorted l) zs p w6.heap.size g w3.heap.size (.slice (some ⟨g,0,none⟩) (p+1) cap) pre W ns' F' r):=fun pre X Y row hs hg hr=>by
    obtain ⟨ns',F',r,j⟩:=hs
    have hrc:∀r,row=some r→∃o:Obj,X.heap[r]?=some o∧o.isCells=false:=fun r e=>(hr r e).2
    refine ⟨ns',F',r,SB.keep j.ab (fun b hb=>hg.block b (SB.low j.ab b hb) (fun e=>?_)),j.low,j.off.grown hg (fun b e=>Or.inr ?_),j.int,j.few,at_kept j.box hg hrc,at_kept j.kind hg hrc,at_kept j.id hg hrc,Nat.le_trans j.size hg.size,j.right⟩
    · obtain ⟨h1,o,h2,h3⟩:=hr b e.symm
      have:=hmB j.ab hb h2 (fun cs t p q=>by rw[q] at h3;cases h3)
      have h4:=HB2.out.size
      have h5:=HSz.out
      omega
    · obtain ⟨h1,_⟩:=hr b e
      have h4:=HB2.out.size
      have h5:=HSz.out
      omega
  refine wpIn_rangeFunc_ownG (α:=Nat×Num) rfl (by omega) (gf:=86) (lb:=#[.pointer (some ⟨w3.heap.size+1,0,none⟩)]) rfl trivial (enters_of Tryz.func86 (by kernel_rfl) rfl)
    (back_stops Fence.wide _ trivial rfl (by omega) (w3.heap.size+1) g cap zs (by omega) hzI w6 (by omega) hgs hBs hcz) (fun h k=>h.trans k)
    (fun W lw o o' hl ho _ _=>⟨World.putObj_heap_other (by omega),World.putObj_heap_other (by omega)⟩) (Below.refl _ _) (fun _=>rfl)
    (fun pre W=>∃ns' F' r,JI AB w (.pointer (some ⟨gp,0,none⟩)) ns F k (sorted l) zs p w6.heap.size g w3.heap.size (.slice (some ⟨g,0,none⟩) (p+1) cap) pre W ns' F' r)
    (fun _ _ _=>False) hI (fun _ _ _ _ _ hs _ _=>hs) ⟨_,_,_,hJ0⟩
    (fun x=>{tmps:=#[.pointer (some ⟨gp,0,none⟩),.int .i64 k,.slice (some ⟨g,0,none⟩) (p+1) cap,.pointer (some ⟨w.heap.size,0,none⟩),.pointer (some ⟨w.heap.size+1,0,none⟩),undef,.int .i64 0,.int .i64 p,.pointer (some ⟨w3.heap.size,0,none⟩),undef,.int .i64 x.2.1,.slice (some ⟨g,0,none⟩) (p+1) cap,.tuple #[],.slice (some ⟨g,0,none⟩) (p+1) cap,.int .i64 (p+1),.int .i64 p,.slice (some ⟨g,0,none⟩) (p+1) cap,.int .i64 p,.pointer (some ⟨g,p,none⟩),.int .i64 x0,.slice (some ⟨g,0,none⟩) (p+1) cap,.int .i64 p,.slice (some ⟨g,0,none⟩) p cap,.func (.func 86) #[] #[.pointer (some ⟨w3.heap.size+1,0,none⟩)],.int .i64 (x.1:Int),.int .i64 x.2.1,undef,undef,undef,undef,undef,undef,undef],defers:=[]}) ?assign ?body ?done ?stop
  case assign =>
    intro l x W K hK
    gi_wp2
    exact hK
  case stop =>
    rintro D c pre W _ _ h _
    exact h.elim
  case done =>
    rintro D ys W hD rfl ⟨ns',F',r,j⟩ hDD
    have c0:=j.id.cell 0
    have hst:=j.right (by rw[backTo_length])
    rw[backTo_length,hzl,Nat.sub_self] at hst
    have hput:∃r' ns'' F'',(.returned (.int .i64 r):Ending)=.returned (.int .i64 r')∧AA (W.putObj D (.deferred none)) (.pointer (some ⟨gp,0,none⟩)) ns'' F''∧(∀b,F'' b→F b∨w.heap.size≤b)∧OffF (fun b=>F b∨(Value.slice (some ⟨g,0,none⟩) (p+1) cap).ownBlock=some b) w (W.putObj D (.deferred none))∧StepR ns k (sorted l) 0 ns'' r':=by
      have hgr:=grownBy_putObj' W D (.deferred none)
      have hw6:w.heap.size≤w6.heap.size:=by have:=HB2.out.size;have:=HSz.out;omega
      refine ⟨r,ns',F',rfl,hup (SB.keep j.ab (fun b hb=>hgr.block b (SB.low j.ab b hb) (fun e=>?_))),fun b q=>?_,?_,hst⟩
      · injection e with e
        have h4:=hmB j.ab hb (by rw[e];exact hDD) (fun cs t p q=>by cases q)
        omega
      · rcases j.low b q with q | q
        · exact Or.inl q
        · exact Or.inr (by omega)
      · have:=j.off.grown hgr (fun b e=>Or.inr (by injection e with e;omega))
        exact ⟨this.os,this.tape,this.output,this.size,fun b hb hn=>this.block b hb (fun q=>hn (by
          rcases q with q | q
          · exact Or.inl q
          · exact Or.inr (by rw[←q];rfl)))⟩
    have HPu:=Lib.hid hput
    clear hput hst
    gi_wp2
    refine ⟨by simp,.inl ⟨_,_,rfl,run_takeDeferred hDD,?_⟩⟩
    refine ⟨_,results_tmp rfl _ _ _,?_⟩
    exact HPu.out
  case body =>
    rintro lw pre ⟨q,x,hxI⟩ W ⟨ns',F',r,j⟩ hlen
    rw[hzl] at hlen
    have c0:=j.box.cell 0
    have c1:=j.kind.cell 0
    have c2:=j.id.cell 0
    have f2:=j.id.free 0
    have hfew:=j.few
    have hroom:=HRoom.out
    have hpl:=HP.out
    obtain ⟨nd,hnd⟩:∃nd,nd=Nd.mk k noSt x r false:=⟨_,rfl⟩
    have HPu:=Lib.hid (nPutRaw SB (Nd.mk k noSt x r false) j.ab (fit_small _ _ _ _ hkI hxI j.int) (by omega))
    gi_wp2_with fail
    refine ⟨trivial,?_⟩
    refine (CallsIn.inRound lw (callsIn_wide.2 HPu.out)).mono ?_
    rintro e W6 ⟨F2,rfl,hA6,hF6,ho6⟩
    rw[←hnd] at hA6 ⊢
    have hq6:W.heap.size≤W6.heap.size:=ho6.size
    have hb6:∀b,b<W.heap.size→¬F' b→W6.heap[b]?=W.heap[b]?:=ho6.block
    have hnF:∀b,b<w6.heap.size→¬F b→¬F' b:=fun b h1 h2 q=>by
      rcases j.low b q with q | q
      · exact h2 q
      · omega
    have hw6:w.heap.size≤w6.heap.size:=by have:=HB2.out.size;have:=HSz.out;omega
    have hnew:∀b,w.heap.size≤b→¬F b:=fun b h1 q=>by have:=HFl.out b q;omega
    have hidW:At W6 w3.heap.size 3 #[.int .i64 r]:=(hb6 _ j.id.lt (hnF _ (by omega) (hnew _ (by have:=HSz.out;have:=HS2.out;omega)))).trans j.id
    have hboxW:At W6 w.heap.size 38 #[.pointer (some ⟨gp,0,none⟩)]:=(hb6 _ j.box.lt (hnF _ (by have:=HSz.out;have:=HS2.out;omega) (hnew _ (Nat.le_refl _)))).trans j.box
    have hkW:At W6 (w.heap.size+1) 3 #[.int .i64 k]:=(hb6 _ j.kind.lt (hnF _ (by have:=HSz.out;have:=HS2.out;omega) (hnew _ (by omega)))).trans j.kind
    have c6:=hidW.cell 0
    have f6:=hidW.free 0
    have hrI:I64 (putR ns' nd):=by
      have h1:=findN_le ns' nd
      unfold putR putId
      unfold I64
      split<;>omega
    have hfe2:(putS ns' nd).length≤ns.length+(pre++[(q,(⟨x,hxI⟩:Num))]).length:=by
      have:=putS_le ns' nd
      rw[List.length_append]
      simp
      omega
    have HM:Hid (w3.heap.size≠w.heap.size∧w3.heap.size≠w.heap.size+1∧w3.heap.size≠w3.heap.size+1∧w3.heap.size≠g∧w3.heap.size<w6.heap.size):=Lib.hid (by have:=HSz.out;have:=HS2.out;have:=HGs.out;omega)
    have hbnd:∀b,w3.heap.size≠b→(W6.setCell ⟨w3.heap.size,0,none⟩ (.int .i64 (putR ns' nd))).heap[b]?=W6.heap[b]?:=fun b hb=>Below.heap_setCell W6 ⟨w3.heap.size,0,none⟩ _ b (fun e=>hb e.symm)
    have hF2n:¬F2 w3.heap.size:=fun z=>by
      rcases hF6 _ z with z | z
      · exact hnF _ HM.out.2.2.2.2 (hnew _ (by have:=HSz.out;have:=HS2.out;omega)) z
      · have:=j.size;have:=HM.out.2.2.2.2;omega
    have HFin:Hid (KeepsFrom w6.heap.size W (W6.setCell ⟨w3.heap.size,0,none⟩ (.int .i64 (putR ns' nd)))∧KeepsTwo (w3.heap.size+1) g W (W6.setCell ⟨w3.heap.size,0,none⟩ (.int .i64 (putR ns' nd)))∧JI AB w (.pointer (some ⟨gp,0,none⟩)) ns F k (sorted l) zs p w6.heap.size g w3.heap.size (.slice (some ⟨g,0,none⟩) (p+1) cap) (pre++[(q,(⟨x,hxI⟩:Num))]) (W6.setCell ⟨w3.heap.size,0,none⟩ (.int .i64 (putR ns' nd))) (putS ns' nd) F2 (putR ns' nd)):=Lib.hid (by
      refine ⟨⟨by rw[World.size_setCell];exact hq6,fun b o hb ho hn=>?_⟩,⟨?_,?_⟩,SB.keep hA6 (fun b q=>hbnd b (fun e=>hF2n (by rw[e];exact q))),fun b q=>?_,?_,hrI,hfe2,?_,?_,?_,?_,fun hpre=>?_⟩
      · have hblt:=(Array.getElem?_eq_some_iff.1 ho).1
        rw[hbnd b (by have:=HM.out.2.2.2.2;omega),hb6 b hblt (fun z=>?_)]
        · exact ho
        · have:=hmB j.ab z ho (fun cs t p q=>by rw[q] at hn;cases hn)
          omega
      · rw[hbnd _ HM.out.2.2.1]
        exact hb6 _ (by have:=j.size;omega) (hnF _ (by omega) (hnew _ (by have:=HSz.out;have:=HS2.out;omega)))
      · rw[hbnd _ HM.out.2.2.2.1]
        exact hb6 _ (by have:=j.size;omega) (hnF _ hgs HGn.out)
      · rcases hF6 b q with q | q
        · exact j.low b q
        · exact Or.inr (Nat.le_trans j.size q)
      · have h1:OffF (fun b=>F b∨g=b) w W6:=by
          refine ⟨ho6.os.trans j.off.os,ho6.tape.trans j.off.tape,ho6.output.trans j.off.output,Nat.le_trans j.off.size ho6.size,fun b hb hn=>?_⟩
          rw[ho6.block b (Nat.lt_of_lt_of_le hb j.off.size) (hnF b (by omega) (fun z=>hn (Or.inl z)))]
          exact j.off.block b hb hn
        refine ⟨h1.os,h1.tape,h1.output,by rw[World.size_setCell];exact h1.size,fun b hb hn=>?_⟩
        rw[hbnd b (by have:=HSz.out;have:=HS2.out;omega)]
        exact h1.block b hb hn
      · exact hboxW.other (fun e=>HM.out.1 e.symm) _
      · exact hkW.other (fun e=>HM.out.2.1 e.symm) _
      · exact hidW.set 0 _
      · rw[World.size_setCell];exact Nat.le_trans j.size hq6
      · rw[List.length_append,List.length_singleton,backTo_succ] at hpre
        obtain ⟨e1,e2⟩:=List.append_inj' hpre rfl
        injection e2 with e2 _
        injection e2 with e2 e3
        have e3:x=zs[zs.length-1-pre.length]?.getD 0:=by
          have:=congrArg Subtype.val e3
          rw[numOf_is (hzI _ (by omega))] at this
          exact this
        have hst:=j.right e1
        rw[hzl] at e3
        rw[hzj _ (by omega)] at e3
        obtain ⟨t,ht⟩:∃t,t=p-1-pre.length:=⟨_,rfl⟩
        rw[show p-pre.length=t+1 by omega] at hst
        obtain ⟨h1,h2⟩:=hst.next HK.out HC.out.fine HG.out (by rw[HSl.out];omega) (SB.max j.ab) HC.out
        have e4:(sorted l)[t]'(by rw[HSl.out];omega)=x:=by
          have e5:(sorted l)[t]'(by rw[HSl.out];omega)=(sorted l)[p-1-pre.length]'(by rw[HSl.out];omega):=by simp only[ht]
          exact e5.trans e3.symm
        rw[e4,←hnd] at h1 h2
        rw[List.length_append,List.length_singleton,show p-(pre.length+1)=t by omega]
        unfold putR
        rw[if_pos h1]
        exact h2)
    clear hA6 hF6 ho6 hq6 hb6 hnF hnew hidW hboxW hkW hrI hfe2 hbnd hF2n hI hJ0
    gi_wp2
    rw[←hnd]
    exact ⟨HFin.out.1,HFin.out.2.1,_,_,_,HFin.out.2.2⟩
end
end Go.Proofs.YtgmpfnfomgadeaaGreat
