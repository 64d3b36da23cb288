/- Joined: FormMass, Make13, RefLooksW, Found, BuildLooks, BuildLv. -/
import Derived.Test.YtgmpfnfomgadeaaGreatMao
import Derived.Test.YtgmpfnfomgadeaaGreatAddLooks
import Derived.Test.YtgmpfnfomgadeaaGreatMan
import Derived.Test.YtgmpfnfomgadeaaGreatPlanAt
import Derived.Deep.QuietTactic
import Derived.Test.YtgmpfnfomgadeaaGreatMaq
import Derived.Test.YtgmpfnfomgadeaaGreatMab
import Derived.Test.YtgmpfnfomgadeaaGreatMar
import Derived.Test.YtgmpfnfomgadeaaGreatMag
import Derived.TacticsInMore
import Derived.Test.YtgmpfnfomgadeaaGreatMae
/- A formed pattern has at most 1000 nodes. -/
set_option linter.unusedSimpArgs false
set_option linter.unusedVariables false
namespace Go.Proofs.YtgmpfnfomgadeaaGreat
open Go.RowKit
theorem sumS_mass (k:Nat):∀(l:List Tr),(∀p∈l,1≤sizeS k p)→(∀p∈l,sizeS k p≤1000→(massS k p:Int)≤sizeS k p)→sumS (l.map (sizeS k))≤1000→((l.map (massS k)).sum:Int)≤sumS (l.map (sizeS k)):=by
  have key:∀r:List Tr,(∀p∈r,1≤sizeS k p)→(∀p∈r,sizeS k p≤1000→(massS k p:Int)≤sizeS k p)→sumS (r.map (sizeS k)).reverse≤1000→((r.map (massS k)).sum:Int)≤sumS (r.map (sizeS k)).reverse:=fun r=>by
    induction r with
    | nil=>exact fun _ _ _=>by show (0:Int)≤sumS [];exact Int.le_refl 0
    | cons a r ih =>
      intro h0 h1 h2
      have em:((a::r).map (sizeS k)).reverse=(r.map (sizeS k)).reverse++[sizeS k a]:=by rw[List.map_cons,List.reverse_cons]
      rw[em,sumS_snoc] at h2 ⊢
      have hge:0≤sumS (r.map (sizeS k)).reverse:=sumS_ge _ (fun x hx=>by
        rw[List.mem_reverse,List.mem_map] at hx
        obtain ⟨p,_,rfl⟩:=hx
        exact sizeS_ge k p)
      have ha:=h0 a (by simp)
      have hc:¬1001<sumS (r.map (sizeS k)).reverse+sizeS k a:=fun q=>by rw[cut1001_yes q] at h2;omega
      rw[cut1001_no hc] at h2 ⊢
      have h3:=ih (fun p hp=>h0 p (List.mem_cons_of_mem _ hp)) (fun p hp=>h1 p (List.mem_cons_of_mem _ hp)) (by omega)
      have h4:=h1 a (by simp) (by omega)
      rw[List.map_cons,List.sum_cons]
      omega
  intro l h0 h1 h2
  have h5:(l.reverse.map (sizeS k)).reverse=l.map (sizeS k):=by rw[List.map_reverse,List.reverse_reverse]
  have h6:(l.reverse.map (massS k)).sum=(l.map (massS k)).sum:=by rw[List.map_reverse,List.sum_reverse]
  have:=key l.reverse (fun p hp=>h0 p (by simpa using hp)) (fun p hp=>h1 p (by simpa using hp)) (by rw[h5];exact h2)
  rw[h5,h6] at this
  exact this
theorem mass_size:∀(k:Nat) (t:Tr),Tr.Lv k t→sizeS k t≤1000→(massS k t:Int)≤sizeS k t
  | 0,_,h,_=>h.elim
  | k+1,t,hl,h=>by
    have hs:=size_sum h
    have h0:0≤sumS (t.parts.map (sizeS k)):=by
      have:=sizeTo_ge k t t.parts.length
      unfold sizeTo at this
      rwa [List.take_length] at this
    have h1:=sumS_mass k t.parts (fun p hp=>size_pos k p (hl p hp)) (fun p hp q=>mass_size k p (hl p hp) q) (by omega)
    have h':cut1001 ((if t.kind=7 then sumS (t.parts.map (sizeS k))*timesS t.lo t.hi else sumS (t.parts.map (sizeS k)))+1)≤1000:=h
    have h2:sumS (t.parts.map (sizeS k))+1≤cut1001 ((if t.kind=7 then sumS (t.parts.map (sizeS k))*timesS t.lo t.hi else sumS (t.parts.map (sizeS k)))+1):=by
      have hm:sumS (t.parts.map (sizeS k))*1≤sumS (t.parts.map (sizeS k))*timesS t.lo t.hi:=Int.mul_le_mul_of_nonneg_left (times_pos _ _) h0
      rw[Int.mul_one] at hm
      unfold cut1001 at h' ⊢
      (repeat' split at h')<;>(repeat' split)<;>omega
    show ((1+(t.parts.map (massS k)).sum:Nat):Int)≤_
    have h3:sizeS (k+1) t=cut1001 ((if t.kind=7 then sumS (t.parts.map (sizeS k))*timesS t.lo t.hi else sumS (t.parts.map (sizeS k)))+1):=rfl
    rw[h3]
    omega
theorem deep_lv:∀(k m:Nat) (t:Tr),Tr.Lv k t→deepS k m t≤m→Tr.Lv m t
  | 0,_,_,h,_=>h.elim
  | k+1,m,t,h,hd=>by
    have h1:1≤m:=by
      rcases Nat.eq_zero_or_pos m with q | q
      · subst q
        have:deepS (k+1) ((0:Nat):Int) t=1:=by show (if ((0:Nat):Int)<1 then 1 else _)=1;rw[if_pos (by decide)]
        omega
      · exact q
    obtain ⟨m',rfl⟩:∃m',m=m'+1:=⟨m-1,by omega⟩
    intro p hp
    obtain ⟨j,hj,rfl⟩:=List.getElem_of_mem hp
    have:=(deep_part hd hj).2
    exact deep_lv k m' _ (h _ hp) (by have e:((m'+1:Nat):Int)-1=(m':Int):=by omega
                                      rw[e] at this;exact this)
theorem FormedT.lv40 {t:Tr} (h:FormedT t):Tr.Lv 40 t∧isFormed 40 t=true:=by
  obtain ⟨k,hl,hf⟩:=id h
  have h40:Tr.Lv 40 t:=deep_lv k 40 t hl (isFormed_deep hf)
  exact ⟨h40,h.at h40⟩
end Go.Proofs.YtgmpfnfomgadeaaGreat

/- looks.Make. -/
set_option linter.unusedSimpArgs false
set_option linter.unusedVariables false
set_option maxHeartbeats 16000000
set_option maxRecDepth 100000
namespace Go.Proofs.YtgmpfnfomgadeaaGreat
open Go.RowKit
theorem slim_down:∀(k:Nat) (t:Tr),slimS (k+1) t→slimS k t
  | 0,_,_=>trivial
  | k+1,t,h=>⟨h.1,fun p hp=>slim_down k p (h.2 p hp)⟩
theorem slim_any (t:Tr) {k:Nat} (hl:Tr.Lv k t) (hf:isFormed k t=true) (m:Nat):slimS m t:=by
  have h1:∀d,slimS (k+d) t:=fun d=>by
    obtain ⟨e,l⟩:=isFormed_more hl d
    exact isFormed_slim l (by rw[e];exact hf)
  have h2:=h1 m
  have h3:∀d,slimS (m+d) t→slimS m t:=by
    intro d
    induction d with
    | zero=>exact id
    | succ d ih=>exact fun h=>ih (slim_down _ _ h)
  exact h3 k (by rw[Nat.add_comm];exact h2)
theorem mass_up:∀(k:Nat) (t:Tr),massS k t≤massS (k+1) t
  | 0,t=>mass_pos 1 t
  | k+1,t=>by
    show 1+(t.parts.map (massS k)).sum≤1+(t.parts.map (massS (k+1))).sum
    have:∀l:List Tr,(l.map (massS k)).sum≤(l.map (massS (k+1))).sum:=fun l=>by
      induction l with
      | nil=>exact Nat.le_refl _
      | cons p l ih=>rw[List.map_cons,List.map_cons,List.sum_cons,List.sum_cons];have:=mass_up k p;omega
    have:=this t.parts
    omega
theorem mass_any (t:Tr) {k:Nat} (hl:Tr.Lv k t) (hf:isFormed k t=true) (m:Nat):massS m t≤4000000:=by
  have h1:∀d,massS (k+d) t≤4000000:=fun d=>by
    obtain ⟨e,l⟩:=isFormed_more hl d
    rw[←e] at hf
    unfold isFormed at hf
    rw[Bool.and_eq_true,Bool.and_eq_true] at hf
    have hs:=of_decide_eq_true hf.2.2
    have:=mass_size (k+d) t l (by omega)
    omega
  have h3:∀d,massS m t≤massS (m+d) t:=by
    intro d
    induction d with
    | zero=>exact Nat.le_refl _
    | succ d ih=>exact Nat.le_trans ih (mass_up _ _)
  have h2:=h1 m
  have h4:=h3 k
  rw[Nat.add_comm] at h2
  omega
theorem formed_in {w:World} {K:Nat} {t:Tr} (h:Tr.Ins w K t) (hf:isFormed K t=true):Tr.Ins w 40 t∧Tr.Lv 40 t∧isFormed 40 t=true∧formedS 40 t=true:=by
  have hlv:=h.1.lv
  have hT:FormedT t:=⟨K,hlv,hf⟩
  obtain ⟨l40,f40⟩:=hT.lv40
  have h40:=deep_in K 40 t h.1 (isFormed_deep hf)
  have f40':=f40
  unfold isFormed at f40'
  rw[Bool.and_eq_true,Bool.and_eq_true] at f40'
  exact ⟨⟨h40,sol_any K 40 t h40 h.2 h.1⟩,l40,f40,f40'.2.1⟩
theorem addIn_of {w:World} {K gp:Nat} {t:Tr} (h:Tr.Ins w K t) (hf:isFormed K t=true) (hg:w.heap.size≤gp):AddIn w 40 gp (.slice none 0 0) t:=by
  obtain ⟨h1,h2,h3,h4⟩:=formed_in h hf
  exact ⟨h1,h4,slim_any t h2 h3,mass_any t h2 h3,off_new hg h1.1,fun b e=>by cases e⟩
theorem OwnW.offT {w:World} {g0:Nat} {T:TypeId} {cs:Array Value} (hA:At w g0 T cs) (hT:T≠27):∀{k lo hi:Nat} {t:Tr},OwnW w k lo hi t→Tr.Off g0 k t
  | 0,_,_,_,_=>trivial
  | k+1,lo,hi,t,⟨m,h1,h2,h3⟩=>⟨fun h0 b' off e q=>by
      obtain ⟨g,cs',e',_,_,hg⟩:=h2 h0
      rw[e] at e'
      injection e' with e'
      injection e' with e1
      unfold At at hA hg
      rw[←e1,q,hA] at hg
      injection hg with hg
      injection hg with _ h4
      exact hT h4,fun p hp=>by
      obtain ⟨a,c,h4,h5,h6⟩:=OwnL.mem (fun _ _ _ q=>OwnW.le q) h3 hp
      exact h6.offT hA hT⟩
def refAll (l:List Tr):List Tr:=l.foldl (refL 40) []
def MakePost (K:Nat) (l:List Tr) (w:World) (e:Ending) (w':World):Prop :=
  ∃(v:Value) (L:List Tr) (er:Int),e=.returned (.tuple #[.agg #[v],.int .i64 er])∧Below w.heap.size w w'∧LksAt w' v L∧((er=1∧L=[]∧∃t∈l,isFormed K t=false)∨((∀t∈l,isFormed K t=true)∧((er=10∧L=[]∧4<(refAll l).length)∨(er=0∧(refAll l).length≤4∧RelL L (refAll l)))))
theorem lks_nil (w:World):LksAt w (.slice none 0 0) []:=⟨Pats.nil w 40,fun t ht=>by cases ht⟩
theorem plan_nil (w:World):PlanAt (w.alloc (.cells #[.slice none 0 0] 34)) w.heap.size (.slice none 0 0) [] :=
  ⟨At.new _ _ _,⟨rfl,Or.inl ⟨rfl,rfl⟩⟩,Nat.zero_le _,fun t ht=>absurd ht List.not_mem_nil,fun t ht=>absurd ht List.not_mem_nil,fun t ht=>absurd ht List.not_mem_nil⟩
theorem relL_nil:RelL [] []:=⟨rfl,fun t ht=>absurd ht List.not_mem_nil,fun t ht=>absurd ht List.not_mem_nil⟩
theorem make_below {w wA wr:World} {gp:Nat} (h:Below w.heap.size w wA) (k:KeepP gp (.slice none 0 0) wA wr) (hg:w.heap.size≤gp):Below w.heap.size w wr :=
  ⟨k.os.trans h.os,k.tape.trans h.tape,k.output.trans h.output,Nat.le_trans h.size k.size,fun b hb=>(k.block b (Nat.lt_of_lt_of_le hb h.size) (by omega) (fun e=>by cases e)).trans (h.block b hb)⟩
structure MJ (wA:World) (gp g0:Nat) (l:List Tr) (j:Nat) (wr:World) (v2:Value) (L2:List Tr):Prop where
  keep:KeepP gp (.slice none 0 0) wA wr
  new:NewV wA (.slice none 0 0) v2
  plan:PlanAt wr gp v2 L2
  rel:RelL L2 ((l.take j).foldl (refL 40) [])
  box:At wr g0 34 #[.slice none 0 0]
theorem tMake (K:Nat) (v:Value) (l:List Tr) (w:World) (hv:Pats w K v l) (hin:∀t∈l,Tr.Ins w K t) (hl:l.length≤1000000) :
    Calls Tryz.prog 8 #[v] w (MakePost K l w):=by
  obtain ⟨A,c,rfl,hrow,_⟩:=hv
  have HR:=Lib.hid hrow
  have HI:=Lib.hid hin
  have HL:=Lib.hid hl
  obtain ⟨w1,hw1⟩:∃w1,w1=w.alloc (.cells #[.slice none 0 0] 34):=⟨_,rfl⟩
  have hb1:Below w.heap.size w w1:=by rw[hw1];exact (Below.refl _ _).alloc (Nat.le_refl _) _
  have hA1:At w1 w.heap.size 34 #[.slice none 0 0]:=by rw[hw1];exact At.new _ _ _
  have HB1:=Lib.hid hb1
  have HA1:=Lib.hid hA1
  have HW1:=Lib.hid hw1
  clear hrow hin hb1 hA1 hw1
  go_enter Tryz.func8,Tryz.ntmps8
  go_wp2_with fail
  rw[←HW1.out]
  go_loopw [11] (fun i wr=>∃j:Nat,j≤l.length∧i=.int .i64 j∧Hid (Below w1.heap.size w1 wr)∧Hid (∀t∈l.take j,isFormed K t=true)) (fun i _=>l.length-(intOf i).toNat)
  case atStart=>exact ⟨0,Nat.zero_le _,rfl,Lib.hid (Below.refl _ _),Lib.hid (fun t ht=>by cases ht)⟩
  case round =>
    obtain ⟨j,hj,rfl,HB,HF⟩:=hrel
    have HBw:Hid (Below w.heap.size w wr):=Lib.hid (HB1.out.trans (HB.out.mono HB1.out.size))
    have HA:=Lib.hid (At.below HA1.out HB.out HA1.out.lt)
    by_cases hlt:j<l.length
    · obtain ⟨b1,o1,rfl,hb1,hr1⟩:=HR.out (by omega)
      have HX:=Lib.hid (range_below (hr1 j hlt) hb1 (Nat.le_refl _) HBw.out)
      have hjz:(0:Int)≤(j:Int):=by omega
      have hjn:(j:Int)<(l.length:Int):=by omega
      have HTk:Hid (l.take (j+1)=l.take j++[l[j]]):=Lib.hid (List.take_succ_eq_append_getElem hlt)
      have HIn:=Lib.hid ((HI.out _ (List.getElem_mem hlt)).next HBw.out)
      have HMm:=Lib.hid (List.getElem_mem hlt)
      obtain ⟨q,hq⟩:∃q,q=l[j]:=⟨_,rfl⟩
      rw[←hq] at HX HTk HIn HMm
      clear hb1 hr1 hq
      have hbx:=boxW_next wr q
      have HBx:=Lib.hid (boxW_at wr q)
      have HC:=Lib.hid (treeFormed K q (boxW wr q) (HIn.out.next hbx).1)
      have HB2:=Lib.hid (HB.out.trans (hbx.mono HB.out.size))
      have HA2:=Lib.hid (At.below HA.out hbx HA.out.lt)
      have hone:=Tr.one q
      clear hbx
      go_wp2_with (first
        | (with_reducible show wpList _ _ _ (⟨some 14,.load 27 _,_,_,_,_⟩::_) _ _
           refine wpList_load_mid rfl 27 _ rfl b1 (o1+j*9) rfl q.cs _ HX.out Tryz.underlying27 rfl (by rw[Tr.cs_length];kernel_rfl) ?_)
        | (with_reducible show wpList _ _ _ (⟨none,.store 27 (.tmp 5) _,_,_,_,_⟩::_) _ _
           refine wpList_store_row rfl 27 _ _ rfl wr.heap.size q.cs.toArray rfl rfl 27 Tr.blank.cs.toArray (At.new _ _ _) (by kernel_rfl) rfl hone ?_
           change Exit.then _ _ _ _ (boxW wr q))
        | (with_reducible show wpList _ _ _ (⟨some 15,.load 27 _,_,_,_,_⟩::_) _ _
           refine wpList_load_row rfl 27 _ rfl wr.heap.size rfl 27 q.cs.toArray (0,0) _ HBx.out Tryz.underlying27 rfl (by kernel_rfl) ?_)
        | fail)
      refine HC.out.mono ?_
      rintro e w3 ⟨rfl,hb3⟩
      have HB3:=Lib.hid (HB2.out.trans (hb3.mono HB2.out.size))
      have HA3:=Lib.hid (At.below HA2.out hb3 HA2.out.lt)
      clear hb3
      obtain ⟨r,hrr⟩:∃r,r=isFormed K q:=⟨_,rfl⟩
      have HRr:=Lib.hid hrr
      rw[←hrr]
      clear hrr
      cases r with
      | true =>
        go_wp2_with fail
        exact ⟨⟨j+1,by omega,by go_num,HB3,Lib.hid (fun t ht=>by
          rw[HTk.out] at ht
          rcases List.mem_append.1 ht with ht | ht
          · exact HF.out t ht
          · rw[List.mem_singleton.1 ht];exact HRr.out.symm)⟩,by simp[intOf];omega⟩
      | false =>
        have f0:=HA3.out.free 0
        have c0:=HA3.out.cell 0
        go_wp2_with fail
        exact bodyPost_ret (results_row_tmp Tryz.results8 _ _ w.heap.size 34 #[.slice none 0 0] (0,0) _ rfl (HA3.out.set 0 _) Tryz.underlying34 rfl (by kernel_rfl)) rfl ⟨.slice none 0 0,[],1,rfl,(HB1.out.trans (HB3.out.mono HB1.out.size)).setCell (Nat.le_refl _) _,lks_nil _,Or.inl ⟨rfl,rfl,q,HMm.out,HRr.out.symm⟩⟩
    · obtain rfl:j=l.length:=by omega
      have HFl:Hid (∀t∈l,isFormed K t=true):=Lib.hid (by have h:=HF.out;rw[List.take_length] at h;exact h)
      have hba:Below wr.heap.size wr (wr.alloc (.cells #[.slice none 0 0] 34)):=(Below.refl _ _).alloc (Nat.le_refl _) _
      have HPl0:=Lib.hid (plan_nil wr)
      obtain ⟨wA,hwA⟩:∃wA,wA=wr.alloc (.cells #[.slice none 0 0] 34):=⟨_,rfl⟩
      have HWA:=Lib.hid hwA
      rw[←hwA] at hba HPl0
      have HBA:=Lib.hid (HBw.out.trans (hba.mono HBw.out.size))
      have HJ0:Hid (MJ wA wr.heap.size w.heap.size l 0 wA (.slice none 0 0) []):=Lib.hid ⟨KeepP.refl _ _ _,Or.inl rfl,HPl0.out,relL_nil,At.below HA.out hba HA.out.lt⟩
      have HGl:Hid (w.heap.size<wr.heap.size):=Lib.hid HA.out.lt
      have HSz:Hid (w.heap.size≤wr.heap.size):=Lib.hid HBw.out.size
      clear hba hwA
      obtain ⟨gp,hgp⟩:∃gp,gp=wr.heap.size:=⟨_,rfl⟩
      have hl2:=HL.out
      go_wp2_with fail
      rw[←HWA.out]
      rw[←hgp] at HJ0 HGl HSz HPl0 ⊢
      have HGp:=Lib.hid hgp
      clear hgp
      go_loopw [22] (fun i wr=>∃(j:Nat) (v2:Value) (L2:List Tr),j≤l.length∧i=.int .i64 j∧Hid (MJ wA gp w.heap.size l j wr v2 L2)) (fun i _=>l.length-(intOf i).toNat)
      case atStart=>exact ⟨0,.slice none 0 0,[],Nat.zero_le _,rfl,HJ0⟩
      case round =>
        clear HJ0 HPl0
        obtain ⟨j,v2,L2,hj,rfl,HJ⟩:=hrel
        have HBr:Hid (Below w.heap.size w wr):=Lib.hid (make_below HBA.out HJ.out.keep HSz.out)
        by_cases hlt:j<l.length
        · obtain ⟨b1,o1,rfl,hb1,hr1⟩:=HR.out (by omega)
          have HX:=Lib.hid (range_below (hr1 j hlt) hb1 (Nat.le_refl _) HBr.out)
          have hjz:(0:Int)≤(j:Int):=by omega
          have hjn:(j:Int)<(l.length:Int):=by omega
          have HTk:=Lib.hid (foldl_take (f:=refL 40) (W:=[]) hlt)
          have HMo:=Lib.hid (foldl_more (refL_len 40) l [] (j+1))
          have HAdd:=Lib.hid (((addIn_of (HI.out _ (List.getElem_mem hlt)) (HFl.out _ (List.getElem_mem hlt)) HSz.out).keep (KeepP.of HBA.out) (Or.inl rfl)).keep HJ.out.keep HJ.out.new)
          have hbx:=boxW_next wr l[j]
          have HPr:=Lib.hid (HAdd.out.keep (KeepP.of hbx) (Or.inl rfl))
          obtain ⟨q,hq⟩:∃q,q=l[j]:=⟨_,rfl⟩
          rw[←hq] at HX HTk HPr hbx
          have HBx:=Lib.hid (boxW_at wr q)
          have HPl2:=Lib.hid (HJ.out.plan.next hbx)
          have HKx:Hid (KeepP gp v2 wr (boxW wr q)):=Lib.hid (KeepP.of hbx)
          have HC:=Lib.hid (tAddLooks 40 (Nat.le_refl _) q (boxW wr q) gp v2 L2 _ HPr.out HPl2.out HJ.out.rel)
          have hone:=Tr.one q
          clear hb1 hr1 hq hbx
          go_wp2_with (first
            | (with_reducible show wpList _ _ _ (⟨some 25,.load 27 _,_,_,_,_⟩::_) _ _
               refine wpList_load_mid rfl 27 _ rfl b1 (o1+j*9) rfl q.cs _ HX.out Tryz.underlying27 rfl (by rw[Tr.cs_length];kernel_rfl) ?_)
            | (with_reducible show wpList _ _ _ (⟨none,.store 27 (.tmp 8) _,_,_,_,_⟩::_) _ _
               refine wpList_store_row rfl 27 _ _ rfl wr.heap.size q.cs.toArray rfl rfl 27 Tr.blank.cs.toArray (At.new _ _ _) (by kernel_rfl) rfl hone ?_
               change Exit.then _ _ _ _ (boxW wr q))
            | (with_reducible show wpList _ _ _ (⟨some 26,.load 27 _,_,_,_,_⟩::_) _ _
               refine wpList_load_row rfl 27 _ rfl wr.heap.size rfl 27 q.cs.toArray (0,0) _ HBx.out Tryz.underlying27 rfl (by kernel_rfl) ?_)
            | fail)
          refine HC.out.mono ?_
          rintro e w3 ⟨r,v3,L3,rfl,k1,k2,k3,k4,k5⟩
          have hkk:KeepP gp v2 wr w3:=HKx.out.then (Or.inl rfl) k1
          have hnn:NewV wr v2 v3:=NewV.then (w1:=boxW wr q) (Or.inl rfl) HKx.out.size k2
          have HKw:=Lib.hid (HJ.out.keep.then HJ.out.new hkk)
          have HNw:=Lib.hid (HJ.out.new.then HJ.out.keep.size hnn)
          have HP3:=Lib.hid k3
          have HR3:=Lib.hid k4
          have HL3:=Lib.hid k5
          have HB3:Hid (At w3 w.heap.size 34 #[.slice none 0 0]):=Lib.hid (hkk.at HJ.out.box (by have:=HGl.out;omega) (fun e=>by
            have:=(HJ.out.plan.rowlt e).1
            have:=HGl.out
            omega))
          clear k1 k2 k3 k4 k5 hkk hnn
          cases r with
          | true =>
            go_wp2_with fail
            exact ⟨⟨j+1,v3,L3,by omega,by go_num,Lib.hid ⟨HKw.out,HNw.out,HP3.out,by rw[HTk.out];exact HL3.out (by first | rfl | trivial),HB3.out⟩⟩,by simp[intOf];omega⟩
          | false =>
            have HFx:Hid (4<(refAll l).length):=Lib.hid (by
              have h1:=HR3.out
              rw[←HTk.out] at h1
              have h2:=of_decide_eq_false h1.symm
              have h3:=HMo.out
              unfold refAll
              omega)
            have f0:=HB3.out.free 0
            have c0:=HB3.out.cell 0
            go_wp2_with fail
            exact bodyPost_ret (results_row_tmp Tryz.results8 _ _ w.heap.size 34 #[.slice none 0 0] (0,0) _ rfl (HB3.out.set 0 _) Tryz.underlying34 rfl (by kernel_rfl)) rfl ⟨.slice none 0 0,[],10,rfl,(make_below HBA.out HKw.out HSz.out).setCell (Nat.le_refl _) _,lks_nil _,Or.inr ⟨HFl.out,Or.inl ⟨rfl,rfl,HFx.out⟩⟩⟩
        · obtain rfl:j=l.length:=by omega
          have HRl:Hid (RelL L2 (refAll l)):=Lib.hid (by have h:=HJ.out.rel;rw[List.take_length] at h;exact h)
          have f0:=HJ.out.box.free 0
          have c0:=HJ.out.box.cell 0
          have p0:=HJ.out.plan.box.cell 0
          obtain ⟨A2,cc2,hv2,_,_⟩:=id HJ.out.plan.lks.1
          subst hv2
          have p0:=HJ.out.plan.box.cell 0
          go_wp2_with fail
          have HOf:Hid (∀t∈L2,Tr.Off w.heap.size 40 t):=Lib.hid (fun t ht=>by obtain ⟨lo,hi,ho⟩:=(HJ.out.plan.each t ht).own;exact ho.offT HJ.out.box (by decide))
          have hz:=HJ.out.box.set 0 (.slice A2 L2.length cc2)
          have hk:∀b,b<wr.heap.size→b≠w.heap.size→(wr.setCell ⟨w.heap.size,0,none⟩ (.slice A2 L2.length cc2)).heap[b]?=wr.heap[b]?:=fun b _ h=>Below.heap_setCell wr ⟨w.heap.size,0,none⟩ (.slice A2 L2.length cc2) b (fun e=>h e)
          have hlk:LksAt (wr.setCell ⟨w.heap.size,0,none⟩ (.slice A2 L2.length cc2)) (.slice A2 L2.length cc2) L2:=by
            refine ⟨ResRow.pats (base:=gp+1) (ownsRow_setCell_other (a:=⟨w.heap.size,0,none⟩) HJ.out.plan.row (fun e=>?_) (.slice A2 L2.length cc2)) (fun t ht=>?_),fun t ht=>?_⟩
            · have h:gp<w.heap.size:=(HJ.out.plan.rowlt e).1
              have:=HGl.out
              omega
            · exact ((HJ.out.plan.each t ht).frame (X:=fun b=>b=w.heap.size) (by rw[World.size_setCell];exact Nat.le_refl _) (fun b hb hx=>hk b hb hx) (fun b e=>by subst e;exact HOf.out t ht)).ins.1
            · exact (HJ.out.plan.each t ht).frame (X:=fun b=>b=w.heap.size) (by rw[World.size_setCell];exact Nat.le_refl _) (fun b hb hx=>hk b hb hx) (fun b e=>by subst e;exact HOf.out t ht)
          exact bodyPost_ret (results_row_tmp Tryz.results8 _ _ w.heap.size 34 #[(.slice A2 L2.length cc2)] (0,0) _ rfl (hz) Tryz.underlying34 rfl (by kernel_rfl)) rfl ⟨(.slice A2 L2.length cc2),L2,0,rfl,HBr.out.setCell (Nat.le_refl _) _,hlk,Or.inr ⟨HFl.out,Or.inr ⟨rfl,by rw[←HRl.out.length];exact HJ.out.plan.few,HRl.out⟩⟩⟩
end Go.Proofs.YtgmpfnfomgadeaaGreat

/- What bolterref21.Looks answers, wholly. -/
set_option linter.unusedSimpArgs false
set_option linter.unusedVariables false
namespace Go.Proofs.YtgmpfnfomgadeaaGreat
open Go.RowKit
def oneR (M:Nat) (L:List Tr) (t:Tr):List Tr:=if L.any (fun q=>sameS M 41 q (bareT t))=true then L else L++[bareT t]
def looksR (M:Nat):Nat→List Tr→Tr→List Tr
  | 0,L,_=>L
  | k+1,L,t=>if t.kind<8 then t.parts.foldl (looksR M k) L else oneR M (t.parts.foldl (looksR M k) L) t
theorem oneR_eq {M:Nat} (hM:40≤M) {L:List Tr} {t:Tr} (hL:∀q∈L,Tr.Lv 40 q) (ht:Tr.Lv 40 t):oneR M L t=lookOne L t:=by
  unfold oneR lookOne
  have e:L.any (fun q=>sameS M 41 q (bareT t))=L.any (fun q=>sameS 40 40 q (bareT t)):=by
    rw[Bool.eq_iff_iff,List.any_eq_true,List.any_eq_true]
    constructor
    · rintro ⟨q,hq,h⟩
      exact ⟨q,hq,(same_iff 40 40 40 _ _ (hL q hq) (bare_lv ht) (Nat.le_refl _) (by omega)).2 ((same_iff 40 M 41 _ _ (hL q hq) (bare_lv ht) hM (by omega)).1 h)⟩
    · rintro ⟨q,hq,h⟩
      exact ⟨q,hq,(same_iff 40 M 41 _ _ (hL q hq) (bare_lv ht) hM (by omega)).2 ((same_iff 40 40 40 _ _ (hL q hq) (bare_lv ht) (Nat.le_refl _) (by omega)).1 h)⟩
  rw[e]
theorem lv_le:∀{k m:Nat} {t:Tr},Tr.Lv k t→k≤m→Tr.Lv m t
  | 0,_,_,h,_=>h.elim
  | k+1,0,_,_,h=>absurd h (by omega)
  | k+1,m+1,t,h,hm=>fun p hp=>lv_le (h p hp) (by omega)
theorem looksR_eq {M:Nat} (hM:40≤M):∀(k:Nat) (L:List Tr) (t:Tr),k≤40→Tr.Lv k t→(∀q∈L,Tr.Lv 40 q)→looksR M k L t=refL k L t∧∀q∈refL k L t,Tr.Lv 40 q
  | 0,_,_,_,h,_=>h.elim
  | k+1,L,t,hk,ht,hL=>by
    have hf:∀(l:List Tr) (L:List Tr),(∀p∈l,Tr.Lv k p)→(∀q∈L,Tr.Lv 40 q)→l.foldl (looksR M k) L=l.foldl (refL k) L∧∀q∈l.foldl (refL k) L,Tr.Lv 40 q:=by
      intro l
      induction l with
      | nil=>exact fun L _ h=>⟨rfl,h⟩
      | cons p l ih =>
        intro L hl hL
        obtain ⟨e,h2⟩:=looksR_eq hM k L p (by omega) (hl p (by simp)) hL
        rw[List.foldl_cons,List.foldl_cons,e]
        exact ih _ (fun q hq=>hl q (List.mem_cons_of_mem _ hq)) h2
    obtain ⟨e,h2⟩:=hf t.parts L ht hL
    have ht40:Tr.Lv 40 t:=lv_le (k:=k+1) ht (by omega)
    unfold looksR refL
    rw[e]
    split
    · exact ⟨rfl,h2⟩
    · refine ⟨oneR_eq hM h2 ht40,fun q hq=>?_⟩
      unfold lookOne at hq
      split at hq
      · exact h2 q hq
      · rcases List.mem_append.1 hq with hq | hq
        · exact h2 q hq
        · rw[List.mem_singleton.1 hq];exact bare_lv ht40
end Go.Proofs.YtgmpfnfomgadeaaGreat

/- LooksFound: what is known of the looks; few; awake. -/
set_option linter.unusedSimpArgs false
set_option linter.unusedVariables false
namespace Go.Proofs.YtgmpfnfomgadeaaGreat
open Go.RowKit
theorem bare_bare (t:Tr):bareT (bareT t)=bareT t:=by cases t;rfl
theorem bare_kind (t:Tr):(bareT t).kind=t.kind:=by cases t;rfl
structure Uniq (W:List Tr):Prop where
  bare:∀q∈W,bareT q=q
  kind:∀q∈W,8≤q.kind
  lv:∀q∈W,Tr.Lv 40 q
  one:W.Pairwise (fun a b=>sameS 40 40 a b=false)
theorem uniq_one {W:List Tr} {t:Tr} (h:Uniq W) (hk:8≤t.kind) (ht:Tr.Lv 40 t):Uniq (lookOne W t):=by
  unfold lookOne
  split
  · exact h
  · rename_i hn
    have hno:∀q∈W,sameS 40 40 q (bareT t)=false:=fun q hq=>by
      cases e:sameS 40 40 q (bareT t) with
      | false=>rfl
      | true=>exact absurd (List.any_eq_true.2 ⟨q,hq,e⟩) hn
    refine ⟨fun q hq=>?_,fun q hq=>?_,fun q hq=>?_,?_⟩
    · rcases List.mem_append.1 hq with hq | hq
      · exact h.bare q hq
      · rw[List.mem_singleton.1 hq];exact bare_bare t
    · rcases List.mem_append.1 hq with hq | hq
      · exact h.kind q hq
      · rw[List.mem_singleton.1 hq,bare_kind];exact hk
    · rcases List.mem_append.1 hq with hq | hq
      · exact h.lv q hq
      · rw[List.mem_singleton.1 hq];exact bare_lv ht
    · rw[List.pairwise_append]
      exact ⟨h.one,List.pairwise_singleton _ _,fun a ha b hb=>by rw[List.mem_singleton.1 hb];exact hno a ha⟩
theorem uniq_foldl {f:List Tr→Tr→List Tr} {l:List Tr} (hf:∀W,∀t∈l,Uniq W→Uniq (f W t)):∀{W:List Tr},Uniq W→Uniq (l.foldl f W):=by
  induction l with
  | nil=>exact fun h=>h
  | cons t l ih =>
    intro W h
    rw[List.foldl_cons]
    exact ih (fun W q hq=>hf W q (List.mem_cons_of_mem _ hq)) (hf W t (by simp) h)
theorem uniq_refL:∀(k:Nat) (W:List Tr) (t:Tr),k≤40→Tr.Lv k t→Uniq W→Uniq (refL k W t)
  | 0,_,_,_,h,_=>h.elim
  | k+1,W,t,hk,ht,h=>by
    have h2:Uniq (t.parts.foldl (refL k) W):=uniq_foldl (fun W p hp q=>uniq_refL k W p (by omega) (ht p hp) q) h
    unfold refL
    split
    · exact h2
    · exact uniq_one h2 (by omega) (lv_le (k:=k+1) ht (by omega))
theorem uniq_nil:Uniq []:=⟨fun q h=>absurd h List.not_mem_nil,fun q h=>absurd h List.not_mem_nil,fun q h=>absurd h List.not_mem_nil,List.Pairwise.nil⟩
theorem uniq_all {l:List Tr} (h:∀t∈l,Tr.Lv 40 t):Uniq (refAll l):=uniq_foldl (fun W t ht q=>uniq_refL 40 W t (Nat.le_refl _) (h t ht) q) uniq_nil
theorem same_rel {L W:List Tr} (h:RelL L W) {i j:Nat} (h1:i<L.length) (h2:i<W.length) (h3:j<W.length):sameS 40 40 L[i] W[j]=sameS 40 40 W[i] W[j]:=by
  have lj:=h.2.2 _ (List.getElem_mem h3)
  rw[Bool.eq_iff_iff,same_iff 40 40 40 _ _ (h.2.1 _ (List.getElem_mem h1)) lj (Nat.le_refl _) (by omega),same_iff 40 40 40 _ _ (h.2.2 _ (List.getElem_mem h2)) lj (Nat.le_refl _) (by omega),h.at i h1 h2]
theorem same_self {t:Tr} (h:Tr.Lv 40 t):sameS 40 40 t t=true:=(same_iff 40 40 40 t t h h (Nat.le_refl _) (by omega)).2 rfl
theorem idx_is {f:Tr→Bool}:∀(L:List Tr) (i j:Nat),(hi:i<L.length)→f L[i]=true→(∀k (h:k<i),f (L[k]'(by omega))=false)→idxFrom f L j=(j+i:Nat)
  | q::L,0,j,_,hf,_=>by
    unfold idxFrom
    rw[if_pos (by exact hf)];rfl
  | q::L,i+1,j,hi,hf,hn=>by
    unfold idxFrom
    rw[if_neg (by have:=hn 0 (by omega);rw[show f q=false from this];decide),idx_is L i (j+1) (by simpa using hi) hf (fun k h=>hn (k+1) (by omega))]
    omega
theorem idx_at {L W:List Tr} (h:RelL L W) (hu:Uniq W) {i:Nat} (hi:i<W.length) {t:Tr} (ht:bareT t=W[i]):idxS L t=i:=by
  have hl:=h.length
  unfold idxS
  rw[ht]
  have hx:=idx_is (f:=fun q=>sameS 40 40 q W[i]) L i 0 (by omega) (by
    show sameS 40 40 L[i] W[i]=true
    rw[same_rel h (by omega) hi hi]
    exact same_self (hu.lv _ (List.getElem_mem hi))) (fun k hk=>by
    show sameS 40 40 (L[k]'(by omega)) W[i]=false
    rw[same_rel h (by omega) (by omega) hi]
    exact List.pairwise_iff_getElem.1 hu.one k i (by omega) hi hk)
  rw[hx,Nat.zero_add]
def leafT (k:Int):Tr:=.node k ⟨0,0,0,0⟩ none 0 0 [] 0 0 false
theorem leaf_in (w:World) (k:Int) (hk:I64 k) (m:Nat):Tr.Ins w (m+1) (leafT k) :=
  ⟨⟨⟨(show (St.mk 0 0 0 0).Ok from ⟨by unfold U64;exact Nat.zero_lt_succ _,by unfold U64;exact Nat.zero_lt_succ _,by unfold U64;exact Nat.zero_lt_succ _,by unfold U64;exact Nat.zero_lt_succ _⟩),hk,(show I64 0 by unfold I64;omega),(show I64 0 by unfold I64;omega)⟩,⟨rfl,Nat.zero_le _⟩,fun h=>absurd h (Nat.lt_irrefl 0),fun j h=>absurd h (Nat.not_lt_zero _)⟩,⟨fun h=>absurd h (Nat.lt_irrefl 0),fun p h=>absurd h List.not_mem_nil⟩⟩
end Go.Proofs.YtgmpfnfomgadeaaGreat

/- norm.numbersOfLooks, without a look. -/
set_option linter.unusedSimpArgs false
set_option linter.unusedVariables false
namespace Go.Proofs.YtgmpfnfomgadeaaGreat
open Go.RowKit
theorem results_int_cell {fn:Func} {p:Tmp} (h:fn.results=#[.cell p 3]) {tmps:Array Value} {w:World} {a:Addr} {x:Int} (hp:tmps.getD p undef=.pointer (some a)) (hc:w.cell? a=some (.int .i64 x)):(results fn tmps).run Tryz.prog w=.ok (.int .i64 x) w:=by
  unfold results
  rw[h]
  rw[Array.getD_eq_getD_getElem?] at hp
  simp[hp,hc,go_sem]
end Go.Proofs.YtgmpfnfomgadeaaGreat

/- What a pattern is, whatever the levels it is looked at. -/
set_option linter.unusedSimpArgs false
set_option linter.unusedVariables false
namespace Go.Proofs.YtgmpfnfomgadeaaGreat
open Go.RowKit
theorem any_lv {β:Type} (f:Nat→Tr→β) (hf:∀k t,Tr.Lv k t→f (k+1) t=f k t) {a b:Nat} {t:Tr} (ha:Tr.Lv a t) (hb:Tr.Lv b t):f a t=f b t:=by
  have key:∀d a,Tr.Lv a t→f (a+d) t=f a t∧Tr.Lv (a+d) t:=fun d=>by
    induction d with
    | zero=>exact fun a h=>⟨rfl,h⟩
    | succ d ih=>exact fun a h=>⟨(hf (a+d) t (ih a h).2).trans (ih a h).1,Tr.Lv.up _ _ (ih a h).2⟩
  rcases Nat.le_total a b with q | q
  · obtain ⟨d,rfl⟩:=Nat.exists_eq_add_of_le q
    exact (key d a ha).1.symm
  · obtain ⟨d,rfl⟩:=Nat.exists_eq_add_of_le q
    exact (key d b hb).1
theorem spansS_lv (l:List Nat):∀(k:Nat) (t:Tr),Tr.Lv k t→spansS l (k+1) t=spansS l k t
  | 0,_,h=>h.elim
  | k+1,t,h=>by
    have e:t.parts.map (spansS l (k+1))=t.parts.map (spansS l k):=map_congr' (fun p hp=>spansS_lv l k p (h p hp))
    rw[spansS.eq_def l (k+1+1) t,spansS.eq_def l (k+1) t]
    simp only[e]
end Go.Proofs.YtgmpfnfomgadeaaGreat
