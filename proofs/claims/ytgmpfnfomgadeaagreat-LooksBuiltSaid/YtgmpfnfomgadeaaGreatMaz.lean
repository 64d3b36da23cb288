/- Joined: BlCat, NormOrF. -/
import Derived.Test.YtgmpfnfomgadeaaGreatMax
import Derived.Test.YtgmpfnfomgadeaaGreatMay
import Derived.Test.YtgmpfnfomgadeaaGreatNormJoined
import Derived.Test.YtgmpfnfomgadeaaGreatMag
import Derived.Test.YtgmpfnfomgadeaaGreatMau
/- norm's builder: cat. -/
set_option linter.unusedSectionVars false
set_option linter.unusedSimpArgs false
set_option linter.unusedVariables false
set_option maxHeartbeats 16000000
set_option maxRecDepth 100000
namespace Go.Proofs.YtgmpfnfomgadeaaGreat
open Go.RowKit Go.Shelf
variable {D:List Nat→List Nat→Prop} {u:Value}
attribute [local go_sem] Oper.semAt_some
section
variable {AA:World→Value→List Nd→(Nat→Prop)→Prop}
def BAt (w:World) (g:Nat) (a u:Value):Prop:=At w g 77 #[a,u]
theorem BAt.off {w w':World} {g:Nat} {a u:Value} {F:Nat→Prop} (h:BAt w g a u) (hF:¬F g) (ho:OffF F w w'):BAt w' g a u:=(ho.block g (At.lt h) hF).trans h
structure CJ (AB:World→Value→List Nd→(Nat→Prop)→Prop) (w:World) (a:Value) (ns:List Nd) (F:Nat→Prop) (l zs:List Int) (B g M:Nat) (pre:List (Fin zs.length)) (W:World) (more:List Nd) (F':Nat→Prop) (r:Int):Prop where
  ab:AB W a (ns++more) F'
  low:∀b,F' b→F b∨B≤b
  off:OffF F w W
  inn:isIn (ns++more) r
  canon:Canon (ns++more)
  few:more.length≤pre.length*M
  box:At W w.heap.size 85 #[.pointer (some ⟨g,0,none⟩)]
  id:At W (w.heap.size+1) 3 #[.int .i64 r]
  size:B≤W.heap.size
  right:pre=backF zs.length pre.length→CatW (ns++more) (l.drop (zs.length-pre.length)) r∧more.length≤((l.drop (zs.length-pre.length)).map (catN ns)).sum
theorem bCat (S:ArenaMap AA) {w:World} {a v:Value} {ns:List Nd} {F:Nat→Prop} {B0:Nat} (g M:Nat) (l:List Int) (h:AA w a ns F) (hc:Canon ns) (hb:BAt w g a u) (hgF:¬F g) (hv:IdRow w B0 v l) (h0:0<l.length) (hvF:∀b,v.ownBlock=some b→¬F b) (hl:∀x∈l,isIn ns x) (hM:∀x∈l,catN ns x≤M) (hroom:ns.length+l.length*M+8≤20000) (hlen:l.length≤20000) :
    Calls Tryz.prog 55 #[.pointer (some ⟨g,0,none⟩),v] w (Grows AA w a ns F fun more r=>CatW (ns++more) l r∧more.length≤(l.map (catN ns)).sum):=by
  obtain ⟨p,hp⟩:∃p,l.length=p+1:=⟨l.length-1,by omega⟩
  obtain ⟨gr,cap,ev,hcs⟩:=hv.form h0
  rw[hp] at ev
  subst ev
  have hx3:=hcs p (by rw[hp];omega)
  obtain ⟨x0,hx0⟩:∃x0,x0=l[p]'(by rw[hp];omega):=⟨_,rfl⟩
  rw[←hx0] at hx3
  have HX0:=Lib.hid hx0
  have HA:=Lib.hid h
  have HC:=Lib.hid hc
  have HV:=Lib.hid hv
  have HCs:=Lib.hid hcs
  have HvF:=Lib.hid hvF
  have HL:=Lib.hid hl
  have HMM:=Lib.hid hM
  have HRoom:=Lib.hid hroom
  have HLen:=Lib.hid hlen
  have HP:=Lib.hid hp
  have HBa:=Lib.hid hb
  have HgF:=Lib.hid hgF
  have hpb:p≤20000:=by omega
  have HGv:=Lib.hid (hv.lt (c:=gr) rfl)
  have HGb:=Lib.hid (At.lt hb)
  have hcp:(p:Int)+1≤(cap:Int):=by have:=hv.cap;omega
  have hcp0:(p:Int)≤(cap:Int):=by omega
  obtain ⟨gp,rfl⟩:=S.ptr h
  obtain ⟨w2,hw2⟩:∃w2,w2=((w.alloc (.cells #[.pointer (some ⟨g,0,none⟩)] 85)).alloc (.cells #[.int .i64 x0] 3)):=⟨_,rfl⟩
  obtain ⟨w3,hw3⟩:∃w3,w3=w2.alloc (.cells #[.slice (some ⟨gr,0,none⟩) p cap] 73):=⟨_,rfl⟩
  have hs2:w2.heap.size=w.heap.size+2:=by rw[hw2];simp
  have hs3:w3.heap.size=w.heap.size+3:=by rw[hw3];simp;omega
  have hB2:Below w.heap.size w w2:=by rw[hw2];exact ((Below.refl _ _).alloc (Nat.le_refl _) _).alloc (by simp) _
  have hB3:Below w.heap.size w w3:=by rw[hw3];exact hB2.alloc (by omega) _
  have HW2:=Lib.hid hw2
  have HW3:=Lib.hid hw3
  have HBk:Hid (CallsIn Fence.wide 5 Tryz.prog 70 #[.slice (some ⟨gr,0,none⟩) p cap] w2 fun e w'=>e=.returned (.func (.func 86) #[] #[.pointer (some ⟨w.heap.size+2,0,none⟩)])∧w'=w3):=Lib.hid (by
    have:=back_in Fence.wide 5 trivial rfl (.slice (some ⟨gr,0,none⟩) p cap) (some ⟨gr,0,none⟩) p cap rfl w2
    rw[hs2] at this
    rw[hw3];exact this)
  rw[hw2] at HBk
  have HS2:=Lib.hid hs2
  have HS3:=Lib.hid hs3
  have HB3:=Lib.hid hB3
  have hpz:(0:Int)≤(p:Int):=by omega
  have hpn:(p:Int)<(p:Int)+1:=by omega
  have hpw:IntKind.i64.wrap ((p:Int)+1-1)=(p:Int):=by rw[IntWalk.i64_left,IntWalk.wrap64_in _ (by omega)];omega
  have hp0:¬(p:Int)+1=0:=by omega
  have hp0d:=(int_ne hp0).1
  have hx4:(w.alloc (.cells #[.pointer (some ⟨g,0,none⟩)] 85)).cell? ⟨gr,p,none⟩=some (.int .i64 x0):=(World.cell?_of_block (a:=⟨gr,p,none⟩) (Below.heap_alloc _ _ gr (by have:=HGv.out;omega))).trans hx3
  clear hx3 h hc hv hcs hvF hl hM hroom hlen hb hgF hx0 h0 hw2 hw3 hs2 hs3 hB2 hB3
  refine (callsIn_wide (n:=6)).1 ?_
  refine callsIn_of_wp_marks Tryz.func55 rfl trivial ?_ rfl
  simp only[Tryz.ntmps55,List.size_toArray,List.length_cons,List.length_nil,Nat.reduceAdd,Nat.reduceSub,Array.replicate_succ,Array.replicate_zero,List.push_toArray,List.append_toArray,List.nil_append,List.cons_append]
  gi_wp2_with fail
  refine ⟨trivial,?_⟩
  refine HBk.out.mono ?_
  rintro e w6 ⟨rfl,hw6⟩
  obtain rfl:w3=w6:=hw6.symm
  gi_wp2_with fail
  obtain ⟨zs,hzs⟩:∃zs,zs=l.take p:=⟨_,rfl⟩
  have hzl:zs.length=p:=by rw[hzs,List.length_take,HP.out];omega
  have hzj:∀j (hj:j<p),zat zs j=l[j]'(by have:=HP.out;omega):=fun j hj=>by
    have e:zs[j]?=l[j]?:=by rw[hzs];exact List.getElem?_take_of_lt hj
    unfold zat
    rw[e,List.getElem?_eq_getElem (by have:=HP.out;omega)];rfl
  clear hzs
  subst hzl
  have hIn:∀j,j<zs.length→isIn ns (zat zs j):=fun j hj=>by rw[hzj j hj];exact HL.out _ (List.getElem_mem _)
  have hCn:∀j,j<zs.length→catN ns (zat zs j)≤M:=fun j hj=>by rw[hzj j hj];exact HMM.out _ (List.getElem_mem _)
  have hx0i:isIn ns x0:=by rw[HX0.out];exact HL.out _ (List.getElem_mem _)
  have hns:0<ns.length:=by unfold isIn at hx0i;omega
  have hmx:=S.max HA.out
  have hzI:∀j,j<zs.length→I64 (zat zs j):=fun j hj=>by
    have:=hIn j hj
    unfold isIn at this
    unfold I64
    omega
  obtain ⟨AB,m,SB,hAB,hm,hup,hmB⟩:=S.part HA.out hns
  have HFl:Hid (∀b,F b→b<w.heap.size):=Lib.hid (SB.low hAB)
  have HGn:Hid (¬F gr):=Lib.hid (HvF.out gr rfl)
  have hAB3:AB w3 (.pointer (some ⟨gp,0,none⟩)) ns F:=SB.keep hAB (fun b hb=>HB3.out.block b (HFl.out b hb))
  have hbox:At w3 w.heap.size 85 #[.pointer (some ⟨g,0,none⟩)]:=by rw[HW3.out,HW2.out];exact ((At.new _ _ _).alloc _).alloc _
  have hid:At w3 (w.heap.size+1) 3 #[.int .i64 x0]:=by
    have:=At.new (w.alloc (.cells #[.pointer (some ⟨g,0,none⟩)] 85)) 3 #[.int .i64 x0]
    rw[World.size_alloc] at this
    rw[HW3.out,HW2.out];exact this.alloc _
  have hdr:l.drop zs.length=[x0]:=by
    rw[List.drop_eq_getElem_cons (by have:=HP.out;omega),←HX0.out,List.drop_eq_nil_of_le (by have:=HP.out;omega)]
  have hJ0:CJ AB w (.pointer (some ⟨gp,0,none⟩)) ns F l zs w3.heap.size g M [] w3 [] F x0 :=
    ⟨by rw[List.append_nil];exact hAB3,fun b q=>Or.inl q,OffF.of HB3.out,by rw[List.append_nil];exact hx0i,by rw[List.append_nil];exact HC.out,Nat.zero_le _,hbox,hid,Nat.le_refl _,fun _=>by
      rw[List.append_nil,show zs.length-([]:List (Fin zs.length)).length=zs.length from rfl,hdr]
      exact ⟨CatW.one hx0i,Nat.zero_le _⟩⟩
  have hgs:gr<w3.heap.size:=by have:=HGv.out;have:=HS3.out;omega
  have hBs:w3.cell? ⟨w.heap.size+2,0,none⟩=some (.slice (some ⟨gr,0,none⟩) zs.length cap):=by
    have:=(At.new w2 73 #[.slice (some ⟨gr,0,none⟩) zs.length cap]).cell 0
    rw[HS2.out] at this
    rw[HW3.out];exact this
  have hcz:∀j,j<zs.length→w3.cell? ⟨gr,j,none⟩=some (.int .i64 (zat zs j)):=fun j hj=>by
    rw[hzj j hj]
    exact (World.cell?_of_block (a:=⟨gr,j,none⟩) (HB3.out.block gr (by have:=HGv.out;omega))).trans (HCs.out j (by have:=HP.out;omega))
  have hI:OwnFrom w3.heap.size (fun (pre:List (Fin zs.length)) W=>∃more F' r,CJ AB w (.pointer (some ⟨gp,0,none⟩)) ns F l zs w3.heap.size g M pre W more F' r):=fun pre X Y row hs hg hr=>by
    obtain ⟨more,F',r,j⟩:=hs
    have hrc:∀r,row=some r→∃o:Obj,X.heap[r]?=some o∧o.isCells=false:=fun r e=>(hr r e).2
    refine ⟨more,F',r,SB.keep j.ab (fun b hb=>hg.block b (SB.low j.ab b hb) (fun e=>?_)),j.low,j.off.grown hg (fun b e=>Or.inr ?_),j.inn,j.canon,j.few,at_kept j.box hg hrc,at_kept j.id hg hrc,Nat.le_trans j.size hg.size,j.right⟩
    · obtain ⟨h1,o,h2,h3⟩:=hr b e.symm
      have:=hmB j.ab hb h2 (fun cs t p q=>by rw[q] at h3;cases h3)
      have h5:=HS3.out
      omega
    · obtain ⟨h1,_⟩:=hr b e
      have h4:=HS3.out
      omega
  have HZj:=Lib.hid hzj
  clear hzj
  refine wpIn_rangeFunc_ownG (α:=Fin zs.length) rfl (by omega) (gf:=86) (lb:=#[.pointer (some ⟨w.heap.size+2,0,none⟩)]) rfl trivial (enters_of Tryz.func86 (by kernel_rfl) rfl)
    (back_stopsF Fence.wide _ trivial rfl (by omega) (w.heap.size+2) gr cap zs (by omega) hzI w3 (by have:=HS3.out;omega) hgs hBs hcz) (fun h k=>h.trans k)
    (fun W lw o o' hl ho _ _=>⟨World.putObj_heap_other (by have:=HS3.out;omega),World.putObj_heap_other (by omega)⟩) (Below.refl _ _) (fun _=>rfl)
    (fun pre W=>∃more F' r,CJ AB w (.pointer (some ⟨gp,0,none⟩)) ns F l zs w3.heap.size g M pre W more F' r)
    (fun _ _ _=>False) hI (fun _ _ _ _ _ hs _ _=>hs) ⟨_,_,_,hJ0⟩
    (fun x=>{tmps:=#[.pointer (some ⟨g,0,none⟩),.slice (some ⟨gr,0,none⟩) (zs.length+1) cap,.pointer (some ⟨w.heap.size,0,none⟩),undef,.int .i64 0,.int .i64 zs.length,.pointer (some ⟨w.heap.size+1,0,none⟩),undef,.int .i64 (zat zs x.1),.slice (some ⟨gr,0,none⟩) (zs.length+1) cap,.int .i64 (zs.length+1),.bool false,undef,undef,undef,undef,undef,.slice (some ⟨gr,0,none⟩) (zs.length+1) cap,.int .i64 (zs.length+1),.int .i64 zs.length,.slice (some ⟨gr,0,none⟩) (zs.length+1) cap,.int .i64 zs.length,.pointer (some ⟨gr,zs.length,none⟩),.int .i64 x0,.slice (some ⟨gr,0,none⟩) (zs.length+1) cap,.int .i64 zs.length,.slice (some ⟨gr,0,none⟩) zs.length cap,.func (.func 86) #[] #[.pointer (some ⟨w.heap.size+2,0,none⟩)],.int .i64 (x.1:Int),.int .i64 (zat zs x.1),undef,undef,undef,undef,undef,undef,undef,undef],defers:=[]}) ?assign ?body ?done ?stop
  case assign =>
    intro l x W K hK
    gi_wp2
    exact hK
  case stop =>
    rintro D c pre W _ _ h _
    exact h.elim
  case done =>
    rintro D ys W hD rfl ⟨more,F',r,j⟩ hDD
    have c0:=j.id.cell 0
    have hst:=j.right (by rw[backF_length (Nat.le_refl _)])
    rw[backF_length (Nat.le_refl _),Nat.sub_self,List.drop_zero] at hst
    have hput:Grows AA w (.pointer (some ⟨gp,0,none⟩)) ns F (fun more r=>CatW (ns++more) l r∧more.length≤(l.map (catN ns)).sum) (.returned (.int .i64 r)) (W.putObj D (.deferred none)):=by
      have hgr:=grownBy_putObj' W D (.deferred none)
      have hw3:w.heap.size≤w3.heap.size:=by have:=HS3.out;omega
      refine ⟨r,more,F',rfl,hup (SB.keep j.ab (fun b hb=>hgr.block b (SB.low j.ab b hb) (fun e=>?_))),fun b q=>?_,?_,j.canon,j.inn,hst⟩
      · injection e with e
        have h4:=hmB j.ab hb (by rw[e];exact hDD) (fun cs t p q=>by cases q)
        have h5:=HS3.out
        omega
      · rcases j.low b q with q | q
        · exact Or.inl q
        · exact Or.inr (by omega)
      · exact j.off.grown hgr (fun b e=>Or.inr (by injection e with e;omega))
    have HPu:=Lib.hid hput
    clear hput hst
    gi_wp2
    refine ⟨by simp,.inl ⟨_,_,rfl,run_takeDeferred hDD,?_⟩⟩
    refine ⟨_,results_tmp rfl _ _ _,?_⟩
    exact HPu.out
  case body =>
    rintro lw pre ⟨q,hq⟩ W ⟨more,F',r,j⟩ hlen
    have c0:=j.box.cell 0
    have c1:=j.id.cell 0
    have f1:=j.id.free 0
    have hBW:BAt W g (.pointer (some ⟨gp,0,none⟩)) u:=HBa.out.off HgF.out j.off
    have cb:=hBW.cell 0
    have hxI:=hzI q hq
    have hxi:=hIn q hq
    have hcn:=hCn q hq
    have HCt:Hid (∀W',Below W.heap.size W W'→Calls Tryz.prog 71 #[.pointer (some ⟨gp,0,none⟩),.int .i64 (zat zs q),.int .i64 r] W' (Grows AB W (.pointer (some ⟨gp,0,none⟩)) (ns++more) F' (CatG (ns++more) (zat zs q) r))):=Lib.hid (fun W' hb=>by
      have h1:pre.length+1≤l.length:=by have:=HP.out;omega
      have h2:=Nat.mul_le_mul_right M h1
      rw[Nat.add_mul,Nat.one_mul] at h2
      have h3:=HRoom.out
      have h4:=j.few
      exact (nCat SB (zat zs q) r (SB.next j.ab hb) j.canon (hxi.up more) j.inn (by rw[catN_up HC.out.fine more hxi,List.length_append];omega)).mono (fun _ _ g=>g.from hb))
    have HnF:Hid (¬F' (w.heap.size+1)):=Lib.hid (fun z=>by
      rcases j.low _ z with z | z
      · have:=HFl.out _ z;omega
      · have:=HS3.out;omega)
    have HFin:Hid (∀(W6:World) (r2:Int) (more2:List Nd) (F2:Nat→Prop),AB W6 (.pointer (some ⟨gp,0,none⟩)) ((ns++more)++more2) F2→(∀b,F2 b→F' b∨W.heap.size≤b)→OffF F' W W6→Canon ((ns++more)++more2)→isIn ((ns++more)++more2) r2→CatG (ns++more) (zat zs q) r more2 r2 →
        KeepsFrom w3.heap.size W (W6.setCell ⟨w.heap.size+1,0,none⟩ (.int .i64 r2))∧KeepsTwo (w.heap.size+2) gr W (W6.setCell ⟨w.heap.size+1,0,none⟩ (.int .i64 r2))∧CJ AB w (.pointer (some ⟨gp,0,none⟩)) ns F l zs w3.heap.size g M (pre++[⟨q,hq⟩]) (W6.setCell ⟨w.heap.size+1,0,none⟩ (.int .i64 r2)) (more++more2) F2 r2):=Lib.hid (fun W6 r2 more2 F2 k1 k2 k3 k4 k5 k6=>by
      have hs3:=HS3.out
      have hw6:w3.heap.size≤W6.heap.size:=Nat.le_trans j.size k3.size
      have hnew:∀b,w.heap.size≤b→¬F b:=fun b h1 z=>by have:=HFl.out b z;omega
      have hnF:∀b,b<w3.heap.size→¬F b→¬F' b:=fun b h1 h2 z=>by
        rcases j.low b z with z | z
        · exact h2 z
        · omega
      have hbnd:∀b,w.heap.size+1≠b→(W6.setCell ⟨w.heap.size+1,0,none⟩ (.int .i64 r2)).heap[b]?=W6.heap[b]?:=fun b hb=>Below.heap_setCell W6 ⟨w.heap.size+1,0,none⟩ _ b (fun e=>hb e.symm)
      have hb6:∀b,b<W.heap.size→¬F' b→W6.heap[b]?=W.heap[b]?:=k3.block
      have hF2n:¬F2 (w.heap.size+1):=fun z=>by
        rcases k2 _ z with z | z
        · exact hnF _ (by omega) (hnew _ (by omega)) z
        · have:=j.size;omega
      have hlow:∀b,F' b→F b∨w.heap.size≤b:=fun b z=>by
        rcases j.low b z with z | z
        · exact Or.inl z
        · exact Or.inr (by omega)
      have hmo:more2.length≤catN ns (zat zs q):=by have:=k6.2.1;rw[catN_up HC.out.fine more hxi] at this;exact this
      refine ⟨⟨by rw[World.size_setCell];exact k3.size,fun b o hb ho hn=>?_⟩,⟨?_,?_⟩,SB.keep (by rw[←List.append_assoc];exact k1) (fun b z=>hbnd b (fun e=>hF2n (by rw[e];exact z))),fun b z=>?_,?_,by rw[←List.append_assoc];exact k5,by rw[←List.append_assoc];exact k4,?_,?_,?_,?_,fun hpre=>?_⟩
      · have hblt:=(Array.getElem?_eq_some_iff.1 ho).1
        rw[hbnd b (by omega),hb6 b hblt (fun z=>?_)]
        · exact ho
        · have:=hmB j.ab z ho (fun cs t p q=>by rw[q] at hn;cases hn)
          omega
      · rw[hbnd _ (by omega)]
        exact hb6 _ (by have:=j.size;omega) (hnF _ (by omega) (hnew _ (by omega)))
      · rw[hbnd _ (by have:=HGv.out;omega)]
        exact hb6 _ (by have:=j.size;omega) (hnF _ hgs HGn.out)
      · rcases k2 b z with z | z
        · exact j.low b z
        · exact Or.inr (Nat.le_trans j.size z)
      · have h1:OffF F w W6:=j.off.off k3 hlow
        refine ⟨h1.os,h1.tape,h1.output,by rw[World.size_setCell];exact h1.size,fun b hb hn=>?_⟩
        rw[hbnd b (by omega)]
        exact h1.block b hb hn
      · have h1:=j.few
        rw[List.length_append,List.length_append,List.length_singleton,Nat.add_mul,Nat.one_mul]
        omega
      · have h1:At W6 w.heap.size 85 #[.pointer (some ⟨g,0,none⟩)]:=(hb6 _ (At.lt j.box) (hnF _ (by omega) (hnew _ (Nat.le_refl _)))).trans j.box
        exact h1.other (show w.heap.size≠w.heap.size+1 by omega) _
      · have h1:At W6 (w.heap.size+1) 3 #[.int .i64 r]:=(hb6 _ (At.lt j.id) (hnF _ (by omega) (hnew _ (by omega)))).trans j.id
        exact h1.set 0 _
      · rw[World.size_setCell];exact hw6
      · rw[List.length_append,List.length_singleton,backF_succ (by omega)] at hpre
        obtain ⟨e1,e2⟩:=List.append_inj' hpre rfl
        injection e2 with e2 _
        have e3:q=zs.length-1-pre.length:=congrArg Fin.val e2
        obtain ⟨h1,h2⟩:=j.right e1
        have hql:q<l.length:=by have:=HP.out;omega
        have e4:l.drop q=zat zs q::l.drop (zs.length-pre.length):=by
          rw[List.drop_eq_getElem_cons hql,HZj.out q hq,show q+1=zs.length-pre.length by omega]
        rw[List.length_append,List.length_singleton,show zs.length-(pre.length+1)=q by omega,e4,←List.append_assoc]
        refine ⟨CatW.cons k4 ((hxi.up more).up more2) k6.1 (h1.up j.canon.fine more2 (fun y hy=>(HL.out y (List.mem_of_mem_drop hy)).up more)),?_⟩
        rw[List.map_cons,List.sum_cons,List.length_append]
        omega)
    have hfn:Fence.wide.fn 71:=trivial
    have hmxo:Tryz.prog.follows .mixedOrders=true:=by kernel_rfl
    have HJ:=Lib.hid j
    clear j hI hJ0
    gi_wp2
    gi_region_with_o (gi_at_call 71;refine (CallsIn.inRound lw (callsIn_wide.2 (HCt.out _ (Below.refl _ _).drew))).mono ?_;(rintro e W6 ⟨r2,more2,F2,rfl,k1,k2,k3,k4,k5,k6⟩);have hid6:At W6 (w.heap.size+1) 3 #[.int .i64 r]:=(k3.block _ (At.lt HJ.out.id) HnF.out).trans HJ.out.id;have c6:=At.cell hid6 0;have f6:=At.free hid6 0)
    all_goals
      have hf:=HFin.out _ _ _ _ k1 k2 k3 k4 k5 k6
      gi_wp2
      exact ⟨hf.1,hf.2.1,_,_,_,hf.2.2⟩
end
end Go.Proofs.YtgmpfnfomgadeaaGreat

/- What comes of joined, for Or and And. -/
set_option linter.unusedSectionVars false
set_option linter.unusedSimpArgs false
set_option linter.unusedVariables false
namespace Go.Proofs.YtgmpfnfomgadeaaGreat
open Go.RowKit
def JoinG (ns:List Nd) (k:Int) (l:List Int) (more:List Nd) (r:Int):Prop:=JoinR (ns++more) k l r∧more.length≤memN ns k l+3∧((∃r0,JoinR ns k l r0)→more.length≤3)
def ListOf (ns m1:List Nd) (k:Int) (ms L:List Int):Prop :=
  (m1=[]∧L=ms.filter (otherB ns k)∧∀y∈ms,kd ns y≠2)∨∃b U,L=ms.filter (otherB ns k)++[b]∧isIn (ns++m1) b∧ndAt (ns++m1) b.toNat=⟨2,U,0,0,false⟩∧BytesOf ns k ms U∧∃y∈ms,kd ns y=2
section
variable {ns:List Nd} (hc:Canon ns) {k:Int} (hk:k=4∨k=5)
include hc hk
theorem otherB_up (more:List Nd) {y:Int} (hy:isIn ns y):otherB (ns++more) k y=otherB ns k y:=by
  unfold otherB
  rw[kd_up hy,unitB_up hc.fine more hy]
theorem BytesOf.up {ms:List Int} {U:St} (h:BytesOf ns k ms U) (hm:∀y∈ms,isIn ns y) (more:List Nd):BytesOf (ns++more) k ms U:=by
  refine ⟨h.1,fun b hb=>?_⟩
  rw[h.2 b hb]
  constructor
  · rintro ⟨y,hy,h2,h3⟩
    exact ⟨y,hy,by rw[kd_up (hm y hy)];exact h2,by rw[nd_up (hm y hy)];exact h3⟩
  · rintro ⟨y,hy,h2,h3⟩
    rw[kd_up (hm y hy)] at h2
    rw[nd_up (hm y hy)] at h3
    exact ⟨y,hy,h2,h3⟩
omit hc hk in
theorem byte_kind {ns:List Nd} {b:Int} {U:St} (h:ndAt ns b.toNat=⟨2,U,0,0,false⟩):kd ns b=2:=by unfold kd;rw[h]
omit hc in
theorem byte_no {ns:List Nd} {b:Int} (h:kd ns b=2):kd ns b≠k∧topB ns k b=false∧unitB ns k b=false:=by
  refine ⟨by omega,?_,?_⟩
  · cases q:topB ns k b with
    | false=>rfl
    | true=>have:=topB_kind q;omega
  · cases q:unitB ns k b with
    | false=>rfl
    | true=>have:=unitB_kind q;omega
theorem ListOf.good {l ms L:List Int} {m1:List Nd} (h:Coll ns k l ms) (hn:∀y∈ms,topB ns k y=false) (hL:ListOf ns m1 k ms L):GoodL (ns++m1) k (sorted L):=by
  have hot:∀y∈ms.filter (otherB ns k),isIn (ns++m1) y∧kd (ns++m1) y≠k∧topB (ns++m1) k y=false∧unitB (ns++m1) k y=false∧kd (ns++m1) y≠2:=fun y hy=>by
    obtain ⟨h1,h2⟩:=List.mem_filter.1 hy
    have hi:=h.inn hc hk h1
    unfold otherB at h2
    rw[Bool.and_eq_true,Bool.not_eq_true',Bool.not_eq_true',decide_eq_false_iff_not] at h2
    exact ⟨hi.1.up m1,by rw[kd_up hi.1];exact hi.2,by rw[topB_up hc.fine m1 hi.1];exact hn y h1,by rw[unitB_up hc.fine m1 hi.1];exact h2.2,by rw[kd_up hi.1];exact h2.1⟩
  have hnd:(ms.filter (otherB ns k)).Nodup:=h.nd.filter _
  unfold sorted
  rcases hL with ⟨_,rfl,_⟩ | ⟨b,U,rfl,b1,b2,b3,b4⟩
  · exact good_list (ns:=ns++m1) (k:=k) (by exact hnd) (fun y hy=>⟨(hot y hy).1,(hot y hy).2.1,(hot y hy).2.2.1,(hot y hy).2.2.2.1⟩) (fun y hy z hz h2 _=>absurd h2 (hot y hy).2.2.2.2)
  · have hb2:=byte_kind b2
    refine good_list (ns:=ns++m1) (k:=k) (List.nodup_append.2 ⟨hnd,by simp,fun a ha c hc'=>?_⟩) (fun y hy=>?_) (fun y hy z hz h2 h3=>?_)
    · rw[List.mem_singleton.1 hc']
      intro e
      rw[e] at ha
      exact (hot b ha).2.2.2.2 hb2
    · rcases List.mem_append.1 hy with hy | hy
      · exact ⟨(hot y hy).1,(hot y hy).2.1,(hot y hy).2.2.1,(hot y hy).2.2.2.1⟩
      · rw[List.mem_singleton.1 hy]
        exact ⟨b1,byte_no hk hb2⟩
    · rcases List.mem_append.1 hy with hy | hy
      · exact absurd h2 (hot y hy).2.2.2.2
      · rcases List.mem_append.1 hz with hz | hz
        · exact absurd h3 (hot z hz).2.2.2.2
        · rw[List.mem_singleton.1 hy,List.mem_singleton.1 hz]
omit hc hk in
theorem sorted_mem {L:List Int} {y:Int}:y∈sorted L↔y∈L:=(List.mergeSort_perm L _).mem_iff
theorem ListOf.few {l ms L:List Int} {m1:List Nd} (h:Coll ns k l ms) (hL:ListOf ns m1 k ms L):L.length≤ms.length:=by
  rcases hL with ⟨_,rfl,_⟩ | ⟨b,U,rfl,b1,b2,b3,y,hy,h2⟩
  · exact List.length_filter_le _ _
  · rw[List.length_append,List.length_singleton]
    have hno:otherB ns k y=false:=by unfold otherB;rw[decide_eq_true h2];rfl
    have:∀(m:List Int),y∈m→(m.filter (otherB ns k)).length+1≤m.length:=by
      intro m
      induction m with
      | nil=>intro q;cases q
      | cons c m ih =>
        intro q
        by_cases e:c=y
        · subst e
          rw[List.filter_cons,hno]
          have:=List.length_filter_le (otherB ns k) m
          simp
          exact this
        · have hm:y∈m:=by
            rcases List.mem_cons.1 q with q | q
            · exact absurd q.symm e
            · exact q
          have:=ih hm
          rw[List.filter_cons]
          split
          · simp;omega
          · simp;omega
    exact this ms hy
theorem ListOf.join {l ms L:List Int} {m1 m2:List Nd} {r:Int} (h:Coll ns k l ms) (hn:∀y∈ms,topB ns k y=false) (hL:ListOf ns m1 k ms L) (hc2:Canon (ns++m1++m2)) (hr:IsList (ns++m1++m2) k (sorted L) r):JoinR (ns++m1++m2) k l r:=by
  have hin:∀y∈ms,isIn ns y:=fun y hy=>(h.inn hc hk hy).1
  have hcol:Coll (ns++m1++m2) k l ms:=by rw[List.append_assoc];exact h.up hc hk _
  have hn2:∀y∈ms,topB (ns++m1++m2) k y=false:=fun y hy=>by rw[List.append_assoc,topB_up hc.fine _ (hin y hy)];exact hn y hy
  have hkd:∀y∈ms,kd (ns++m1++m2) y=kd ns y:=fun y hy=>by rw[List.append_assoc,kd_up (hin y hy)]
  have hob:∀y∈ms,otherB (ns++m1++m2) k y=otherB ns k y:=fun y hy=>by rw[List.append_assoc];exact otherB_up hc hk _ (hin y hy)
  have hfil:∀y,y∈ms.filter (otherB ns k)↔y∈ms∧otherB (ns++m1++m2) k y=true:=fun y=>by
    rw[List.mem_filter]
    constructor
    · rintro ⟨q1,q2⟩;exact ⟨q1,by rw[hob y q1];exact q2⟩
    · rintro ⟨q1,q2⟩;exact ⟨q1,by rw[←hob y q1];exact q2⟩
  have hno2:∀y∈ms.filter (otherB ns k),kd (ns++m1++m2) y≠2:=fun y hy=>by
    have:=((hfil y).1 hy).2
    unfold otherB at this
    rw[Bool.and_eq_true,Bool.not_eq_true',decide_eq_false_iff_not] at this
    exact this.1
  rcases hL with ⟨_,rfl,hnb⟩ | ⟨b,U,rfl,b1,b2,b3,y,hy,h2⟩
  · refine hcol.made hc2 hk hn2 hr (fun y h2=>by rw[sorted_mem];exact hfil y) (Or.inr ⟨fun y hy=>by rw[hkd y hy];exact hnb y hy,fun c hc'=>hno2 c (sorted_mem.1 hc')⟩)
  · have hb2:ndAt (ns++m1++m2) b.toNat=⟨2,U,0,0,false⟩:=by rw[nd_up b1];exact b2
    have hbk:=byte_kind hb2
    refine hcol.made hc2 hk hn2 hr (fun z h2=>?_) (Or.inl ⟨b,sorted_mem.2 (List.mem_append_right _ (by simp)),hbk,⟨y,hy,by rw[hkd y hy];exact h2⟩,?_,fun c hc' h3=>?_⟩)
    · rw[sorted_mem,List.mem_append,hfil z]
      constructor
      · rintro (q | q)
        · exact q
        · rw[List.mem_singleton.1 q] at h2;exact absurd hbk h2
      · intro q;exact Or.inl q
    · rw[hb2,List.append_assoc]
      exact b3.up hc hk hin _
    · rcases List.mem_append.1 (sorted_mem.1 hc') with q | q
      · exact absurd h3 (hno2 c q)
      · exact List.mem_singleton.1 q
end
section
variable {AA:World→Value→List Nd→(Nat→Prop)→Prop}
theorem joined_fin {ns:List Nd} (hc:Canon ns) {k:Int} (hk:k=4∨k=5) {w w1 w2:World} {a v:Value} {m1:List Nd} {F F1:Nat→Prop} {l ms L:List Int} {e:Ending} (h:Coll ns k l ms) (hn:∀y∈ms,topB ns k y=false) (hL:ListOf ns m1 k ms L) (hm1:m1.length≤1) (hF1:∀b,F1 b→F b∨w.heap.size≤b) (ho1:OffF F w w1) (hc1:Canon (ns++m1)) (hv:∀b,v.ownBlock=some b→w.heap.size≤b) (hs1:w.heap.size≤w1.heap.size)
    (hp:JoinedPost AA w1 a v (ns++m1) F1 k (sorted L) e w2):Grows AA w a ns F (JoinG ns k l) e w2:=by
  obtain ⟨r,ns',F',rfl,h1,h2,h3,hst⟩:=hp
  obtain ⟨hc2,hls,more,rfl,hlen,hold⟩:=id hst
  rw[List.drop_zero] at hls
  have hj:=hL.join hc hk h hn hc2 hls
  have hfew:=hL.few hc hk h
  have hfew2:=h.few hc hk
  have hsl:(sorted L).length=L.length:=List.length_mergeSort L
  refine ⟨r,m1++more,F',rfl,by rw[←List.append_assoc];exact h1,fun b q=>?_,?_,by rw[←List.append_assoc];exact hc2,by rw[←List.append_assoc];exact hls.inn,by rw[←List.append_assoc];exact hj,by rw[List.length_append];omega,fun hex=>?_⟩
  · rcases h2 b q with q | q
    · exact hF1 b q
    · exact Or.inr (Nat.le_trans hs1 q)
  · refine ⟨h3.os.trans ho1.os,h3.tape.trans ho1.tape,h3.output.trans ho1.output,Nat.le_trans ho1.size h3.size,fun b hb hnb=>?_⟩
    rw[h3.block b (Nat.lt_of_lt_of_le hb ho1.size) (fun q=>by
      rcases q with q | q
      · rcases hF1 b q with z | z
        · exact hnb z
        · omega
      · have:=hv b q;omega)]
    exact ho1.block b hb hnb
  · have:=join_old hc hk m1 more rfl hst hc1 hj h.lin hex
    have hmo:more=[]:=List.append_right_eq_self.1 this
    rw[hmo,List.append_nil]
    omega
end
end Go.Proofs.YtgmpfnfomgadeaaGreat
