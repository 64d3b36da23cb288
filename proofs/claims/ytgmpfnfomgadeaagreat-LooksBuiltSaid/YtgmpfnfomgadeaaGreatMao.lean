/- Joined: Lv, Judge, OwnCopy. -/
import Derived.Test.YtgmpfnfomgadeaaGreatMah
import Derived.Test.YtgmpfnfomgadeaaGreatMak
import Derived.Test.YtgmpfnfomgadeaaGreatMam
import Derived.Test.YtgmpfnfomgadeaaGreatMaj
import Derived.Test.YtgmpfnfomgadeaaGreatMan
/- Levels; what a formed pattern is, however deep it is looked at. No program is walked here. -/
set_option linter.unusedSimpArgs false
set_option linter.unusedVariables false
namespace Go.Proofs.YtgmpfnfomgadeaaGreat
open Go.RowKit
def Tr.Lv:Nat→Tr→Prop
  | 0,_=>False
  | k+1,t=>∀p∈t.parts,Tr.Lv k p
theorem Tr.In.lv {w:World}:∀(k:Nat) (t:Tr),Tr.In w k t→Tr.Lv k t
  | 0,_,h=>h.elim
  | k+1,t,h=>fun p hp=>by
    obtain ⟨j,hj,rfl⟩:=List.getElem_of_mem hp
    exact Tr.In.lv k _ (h.2.2.2 j hj)
theorem Tr.Lv.up:∀(k:Nat) (t:Tr),Tr.Lv k t→Tr.Lv (k+1) t
  | 0,_,h=>h.elim
  | k+1,t,h=>fun p hp=>Tr.Lv.up k p (h p hp)
theorem Tr.Lv.strip:∀(k:Nat) (t:Tr),Tr.Lv k t→Tr.Lv k (t.strip k)
  | 0,_,h=>h.elim
  | k+1,t,h=>fun p hp=>by
    have hp':p∈t.parts.map (Tr.strip k):=hp
    rw[List.mem_map] at hp'
    obtain ⟨q,hq,rfl⟩:=hp'
    exact Tr.Lv.strip k q (h q hq)
theorem all_congr {α:Type} {f g:α→Bool} {l:List α} (h:∀p∈l,f p=g p):l.all f=l.all g:=by
  induction l with
  | nil=>rfl
  | cons a r ih=>rw[List.all_cons,List.all_cons,h a (by simp),ih (fun p hp=>h p (List.mem_cons_of_mem _ hp))]
theorem formedS_lv:∀(k:Nat) (t:Tr),Tr.Lv k t→formedS (k+1) t=formedS k t
  | 0,_,h=>h.elim
  | k+1,t,h=>by
    show (ownF t&&t.parts.all (formedS (k+1)))=(ownF t&&t.parts.all (formedS k))
    rw[all_congr (fun p hp=>formedS_lv k p (h p hp))]
theorem map_congr' {α β:Type} {f g:α→β} {l:List α} (h:∀p∈l,f p=g p):l.map f=l.map g:=List.map_congr_left h
theorem deepS_lv:∀(k:Nat) (m:Int) (t:Tr),Tr.Lv k t→deepS (k+1) m t=deepS k m t
  | 0,_,_,h=>h.elim
  | k+1,m,t,h=>by
    show (if m<1 then 1 else 1+maxl (t.parts.map (deepS (k+1) (m-1))))=(if m<1 then 1 else 1+maxl (t.parts.map (deepS k (m-1))))
    rw[map_congr' (fun p hp=>deepS_lv k (m-1) p (h p hp))]
theorem sizeTo_lv (k:Nat) (t:Tr) (hh:∀p∈t.parts,sizeS (k+1) p=sizeS k p) (j:Nat):sizeTo (k+1) t j=sizeTo k t j:=by
  unfold sizeTo
  rw[map_congr' (fun p hp=>hh p (List.mem_of_mem_take hp))]
theorem sizeS_lv:∀(k:Nat) (t:Tr),Tr.Lv k t→sizeS (k+1) t=sizeS k t
  | 0,_,h=>h.elim
  | k+1,t,h=>by
    have hh:∀p∈t.parts,sizeS (k+1) p=sizeS k p:=fun p hp=>sizeS_lv k p (h p hp)
    by_cases h7:t.kind=7
    · rw[←sizeTo_times (k+1) t h7,←sizeTo_times k t h7,sizeTo_lv k t hh]
    · rw[←sizeTo_plain (k+1) t h7,←sizeTo_plain k t h7,sizeTo_lv k t hh]
theorem isFormed_lv {k:Nat} {t:Tr} (h:Tr.Lv k t):isFormed (k+1) t=isFormed k t:=by
  unfold isFormed
  rw[deepS_lv k 40 t h,formedS_lv k t h,sizeS_lv k t h]
theorem isFormed_more {k:Nat} {t:Tr} (h:Tr.Lv k t):∀d,isFormed (k+d) t=isFormed k t∧Tr.Lv (k+d) t
  | 0=>⟨rfl,h⟩
  | d+1=>by
    have ih:=isFormed_more h d
    exact ⟨(isFormed_lv ih.2).trans ih.1,Tr.Lv.up _ _ ih.2⟩
def FormedT (t:Tr):Prop:=∃k,Tr.Lv k t∧isFormed k t=true
theorem FormedT.at {t:Tr} (h:FormedT t) {k:Nat} (hk:Tr.Lv k t):isFormed k t=true:=by
  obtain ⟨m,h1,h2⟩:=h
  rcases Nat.le_total k m with q | q
  · have:=isFormed_more hk (m-k)
    rw[show k+(m-k)=m by omega] at this
    rw[←this.1];exact h2
  · have:=isFormed_more h1 (k-m)
    rw[show m+(k-m)=k by omega] at this
    rw[this.1];exact h2
theorem isFormed_deep {k:Nat} {t:Tr} (h:isFormed k t=true):deepS k 40 t≤40:=by
  unfold isFormed at h
  rw[Bool.and_eq_true] at h
  have:=of_decide_eq_true h.1
  omega
theorem deep_in {w:World}:∀(k m:Nat) (t:Tr),Tr.In w k t→deepS k m t≤m→Tr.In w m t
  | 0,_,_,h,_=>h.elim
  | k+1,m,t,h,hd=>by
    have h1:1≤m:=by
      have hd':(if (m:Int)<1 then (1:Int) else 1+maxl (t.parts.map (deepS k ((m:Int)-1))))≤m:=hd
      split at hd'
      · omega
      · have:=maxl_ge (t.parts.map (deepS k ((m:Int)-1)));omega
    obtain ⟨m',rfl⟩:∃m',m=m'+1:=⟨m-1,by omega⟩
    refine ⟨h.1,h.2.1,h.2.2.1,fun j hj=>deep_in k m' _ (h.2.2.2 j hj) ?_⟩
    have:=(deep_part (k:=k) (j:=j) (m:=((m'+1:Nat):Int)) (t:=t) hd hj).2
    rw[show ((m'+1:Nat):Int)-1=(m':Int) by omega] at this
    exact this
theorem sumS_room (l:List Int) (h0:∀x∈l,1≤x) (h:sumS l≤1000):(l.length:Int)≤sumS l∧∀x∈l,x≤sumS l:=by
  have key:∀r:List Int,(∀x∈r,1≤x)→sumS r.reverse≤1000→(r.length:Int)≤sumS r.reverse∧∀x∈r,x≤sumS r.reverse:=fun r=>by
    induction r with
    | nil=>exact fun _ _=>⟨by show (0:Int)≤sumS [];exact Int.le_refl 0,fun x hx=>absurd hx List.not_mem_nil⟩
    | cons a r ih =>
      intro h1 h2
      rw[List.reverse_cons,sumS_snoc] at h2 ⊢
      have ha:=h1 a (by simp)
      have hc:¬1001<sumS r.reverse+a:=fun q=>by rw[cut1001_yes q] at h2;omega
      rw[cut1001_no hc] at h2 ⊢
      have h3:=ih (fun x hx=>h1 x (List.mem_cons_of_mem _ hx)) (by omega)
      have hn:(0:Int)≤(r.length:Int):=by omega
      refine ⟨by rw[List.length_cons];have:=h3.1;omega,fun x hx=>?_⟩
      rcases List.mem_cons.1 hx with rfl | hx
      · have:=h3.1;omega
      · have:=h3.2 x hx;omega
  have:=key l.reverse (fun x hx=>h0 x (by simpa using hx)) (by simpa using h)
  simpa using this
theorem size_pos:∀(k:Nat) (t:Tr),Tr.Lv k t→1≤sizeS k t
  | 0,_,h=>h.elim
  | k+1,t,h=>by
    have hx:0≤(if t.kind=7 then sumS (t.parts.map (sizeS k))*timesS t.lo t.hi else sumS (t.parts.map (sizeS k))):=by
      have h0:0≤sumS (t.parts.map (sizeS k)):=by
        have:=sizeTo_ge k t t.parts.length
        unfold sizeTo at this
        rwa [List.take_length] at this
      split
      · exact Int.mul_nonneg h0 (by unfold timesS timesLo cut2000;repeat' split<;>omega)
      · exact h0
    show 1≤cut1001 (_+1)
    unfold cut1001
    split<;>omega
theorem times_pos (lo hi:Int):1≤timesS lo hi:=by unfold timesS timesLo cut2000;repeat' split<;>omega
theorem size_sum {k:Nat} {t:Tr} (h:sizeS (k+1) t≤1000):sumS (t.parts.map (sizeS k))≤999:=by
  have h0:0≤sumS (t.parts.map (sizeS k)):=by
    have:=sizeTo_ge k t t.parts.length
    unfold sizeTo at this
    rwa [List.take_length] at this
  have h':cut1001 ((if t.kind=7 then sumS (t.parts.map (sizeS k))*timesS t.lo t.hi else sumS (t.parts.map (sizeS k)))+1)≤1000:=h
  have hc:∀x:Int,cut1001 (x+1)≤1000→x≤999:=fun x hx=>by unfold cut1001 at hx;split at hx<;>omega
  have h2:=hc _ h'
  split at h2
  · have hm:sumS (t.parts.map (sizeS k))*1≤sumS (t.parts.map (sizeS k))*timesS t.lo t.hi:=Int.mul_le_mul_of_nonneg_left (times_pos _ _) h0
    rw[Int.mul_one] at hm
    omega
  · omega
theorem slim_of_size:∀(k:Nat) (t:Tr),Tr.Lv k t→sizeS k t≤1000→slimS k t
  | 0,_,h,_=>h.elim
  | k+1,t,hl,h=>by
    have hs:=size_sum h
    have hr:=sumS_room (t.parts.map (sizeS k)) (fun x hx=>by
      rw[List.mem_map] at hx
      obtain ⟨p,hp,rfl⟩:=hx
      exact size_pos k p (hl p hp)) (by omega)
    rw[List.length_map] at hr
    exact ⟨by omega,fun p hp=>slim_of_size k p (hl p hp) (by have:=hr.2 _ (List.mem_map_of_mem hp);omega)⟩
theorem isFormed_slim {k:Nat} {t:Tr} (hl:Tr.Lv k t) (h:isFormed k t=true):slimS k t:=by
  unfold isFormed at h
  rw[Bool.and_eq_true,Bool.and_eq_true] at h
  exact slim_of_size k t hl (by have:=of_decide_eq_true h.2.2;omega)
end Go.Proofs.YtgmpfnfomgadeaaGreat

/- parse.judge and tree.Clone. -/
set_option linter.unusedSimpArgs false
set_option linter.unusedVariables false
set_option maxHeartbeats 8000000
set_option maxRecDepth 100000
namespace Go.Proofs.YtgmpfnfomgadeaaGreat
open Go.RowKit
theorem sol_any {w:World}:∀(k m:Nat) (t:Tr),Tr.In w m t→Tr.Sol w k t→Tr.In w k t→Tr.Sol w m t
  | _,0,_,h,_,_=>h.elim
  | 0,_+1,_,_,_,h=>h.elim
  | k+1,m+1,t,h,hs,h'=>⟨hs.1,fun p hp=>by
      obtain ⟨j,hj,rfl⟩:=List.getElem_of_mem hp
      exact sol_any k m _ (h.2.2.2 j hj) (hs.2 _ hp) (h'.2.2.2 j hj)⟩
theorem tClone (t:Tr) (w:World) (h:Tr.Ins w 40 t) (hs:slimS 40 t) (hm:massS 40 t≤4000000) :
    Calls Tryz.prog 40 #[.agg t.cs.toArray] w (MadeI (fun k t=>Tr.strip k t) 40 t w):=by
  obtain ⟨w2,hw2⟩:∃w2,w2=(w.alloc (.cells t.cs.toArray 27)).alloc (.cells #[.int .i64 0,.int .u64 0,.int .u64 0,.int .u64 0,.int .u64 0,.slice none 0 0,.int .i64 0,.int .i64 0,.bool false] 27):=⟨_,rfl⟩
  have HA0:Hid (At w2 w.heap.size 27 t.cs.toArray):=Lib.hid (by rw[hw2];exact (At.new _ _ _).alloc _)
  have HZ0:Hid (At w2 (w.heap.size+1) 27 Tr.blank.cs.toArray):=Lib.hid (by rw[hw2];exact at_new' (w.alloc (.cells t.cs.toArray 27)) (w.heap.size+1) 27 (cs:=Tr.blank.cs.toArray) (by simp))
  have HB0:Hid (Below w.heap.size w w2):=Lib.hid (by rw[hw2];exact below_two _ _)
  have HW2:=Lib.hid hw2
  have hA:At ((w.alloc (.cells t.cs.toArray 27)).alloc (.cells #[.int .i64 0,.int .u64 0,.int .u64 0,.int .u64 0,.int .u64 0,.slice none 0 0,.int .i64 0,.int .i64 0,.bool false] 27)) w.heap.size 27 t.cs.toArray:=(At.new _ _ _).alloc _
  have HI:=Lib.hid (h.next HB0.out)
  have HSL:=Lib.hid hs
  have HM:=Lib.hid hm
  clear hw2 h hs hm
  go_enter Tryz.func40,Tryz.ntmps40
  go_wp2_with (first | (refine wpList_load_row rfl 27 _ rfl w.heap.size rfl 27 t.cs.toArray (0,0) _ hA Tryz.underlying27 rfl (by kernel_rfl) ?_) | fail)
  rw[←HW2.out]
  clear hA
  refine (tDeep 40 t w2 HI.out HM.out).mono ?_
  rintro e w3 ⟨d,rfl,hd1,hd2,hd3,hb3⟩
  have hdd:¬(40:Int)<(d:Int):=by omega
  have HA3:=Lib.hid (At.below HA0.out hb3 HA0.out.lt)
  have HZ3:=Lib.hid (At.below HZ0.out hb3 HZ0.out.lt)
  have HI3:=Lib.hid (HI.out.next hb3)
  have HB3:=Lib.hid (HB0.out.trans (hb3.mono HB0.out.size))
  clear hd1 hd2 hd3 hb3
  go_wp2_with (first | (refine wpList_load_row rfl 27 _ rfl w.heap.size rfl 27 t.cs.toArray (0,0) _ HA3.out Tryz.underlying27 rfl (by kernel_rfl) ?_) | fail)
  refine (copied 40 t w3 HI3.out.1 HSL.out).mono ?_
  rintro e w4 ⟨t2,rfl,hin,hfr,hst,hb4⟩
  have HZ4:=Lib.hid (At.below HZ3.out hb4 HZ3.out.lt)
  have HB4:=Lib.hid (HB3.out.trans (hb4.mono HB3.out.size))
  have HIn:=Lib.hid hin
  have HF4:=Lib.hid hfr
  have HST:=Lib.hid hst
  have HSz:Hid (w.heap.size+2≤w3.heap.size):=Lib.hid HZ3.out.lt
  have hone:=Tr.one t2
  clear hin hfr hst hb4
  go_wp2_with (first
    | (with_reducible show wpList _ _ _ (⟨none,.store _ _ _,_,_,_,_⟩::_) _ _
       refine wpList_store_row rfl 27 _ _ rfl (w.heap.size+1) t2.cs.toArray rfl rfl 27 Tr.blank.cs.toArray HZ4.out (by kernel_rfl) rfl hone ?_) | fail)
  have ho:Only (w.heap.size+1) w4 (w4.setRow (w.heap.size+1) t2.cs.toArray):=Only.row _ _ _
  exact bodyPost_ret (results_cell_row Tryz.results40 _ _ (w.heap.size+1) 27 t2.cs.toArray (0,0) _ rfl (HZ4.out.row _) Tryz.underlying27 rfl (by kernel_rfl)) rfl ⟨t2,rfl,HIn.out.only HF4.out ho (by have:=HSz.out;omega),HF4.out.lower (by have:=HSz.out;omega),HST.out,HB4.out.trans (ho.below (by omega))⟩
end Go.Proofs.YtgmpfnfomgadeaaGreat

/- tree.copied and Clone: the clone's lists lie in blocks of their own, each in one that no other list of it has. -/
set_option linter.unusedSimpArgs false
set_option linter.unusedVariables false
set_option maxHeartbeats 8000000
set_option maxRecDepth 100000
namespace Go.Proofs.YtgmpfnfomgadeaaGreat
open Go.RowKit
def OwnL (G:Nat→Nat→Tr→Prop) (hi:Nat):Nat→List Tr→Prop
  | m,[]=>m≤hi
  | m,p::ps=>∃c,G m c p∧OwnL G hi c ps
def OwnW (w:World):Nat→Nat→Nat→Tr→Prop
  | 0,lo,hi,_=>lo≤hi
  | k+1,lo,hi,t=>∃m,lo≤m∧(0<t.n→∃g cs,t.addr=some ⟨g,0,none⟩∧lo≤g∧g<m∧At w g 27 cs)∧OwnL (fun lo hi t=>OwnW w k lo hi t) hi m t.parts
theorem OwnL.mono {G G':Nat→Nat→Tr→Prop} {hi:Nat}:∀{ps:List Tr} {m:Nat},OwnL G hi m ps→(∀a b p,m≤a→p∈ps→G a b p→G' a b p)→(∀a b p,G a b p→a≤b)→OwnL G' hi m ps
  | [],_,h,_,_=>h
  | p::ps,m,⟨c,h1,h2⟩,hg,hl=>⟨c,hg _ _ _ (Nat.le_refl _) (by simp) h1,OwnL.mono h2 (fun a b q ha hq h=>hg a b q (Nat.le_trans (hl _ _ _ h1) ha) (List.mem_cons_of_mem _ hq) h) hl⟩
theorem OwnL.le {G:Nat→Nat→Tr→Prop} (hl:∀a b p,G a b p→a≤b) {hi:Nat}:∀{ps:List Tr} {m:Nat},OwnL G hi m ps→m≤hi
  | [],_,h=>h
  | _::_,_,⟨_,h1,h2⟩=>Nat.le_trans (hl _ _ _ h1) (OwnL.le hl h2)
theorem OwnL.snoc {G:Nat→Nat→Tr→Prop} (hlow:∀a a' b p,a'≤a→G a b p→G a' b p) {c lo hi:Nat} {q:Tr}:∀{ps:List Tr} {m:Nat},OwnL G c m ps→c≤lo→G lo hi q→hi≤hi→OwnL G hi m (ps++[q])
  | [],m,h,hc,hq,_=>⟨hi,hlow _ _ _ _ (Nat.le_trans h hc) hq,Nat.le_refl _⟩
  | p::ps,m,⟨b,h1,h2⟩,hc,hq,hh=>⟨b,h1,OwnL.snoc hlow h2 hc hq hh⟩
theorem OwnW.le {w:World}:∀{k:Nat} {lo hi:Nat} {t:Tr},OwnW w k lo hi t→lo≤hi
  | 0,_,_,_,h=>h
  | k+1,_,_,_,⟨_,h1,_,h3⟩=>Nat.le_trans h1 (OwnL.le (fun _ _ _ h=>OwnW.le h) h3)
theorem OwnW.lower {w:World}:∀{k:Nat} {lo lo' hi:Nat} {t:Tr},lo'≤lo→OwnW w k lo hi t→OwnW w k lo' hi t
  | 0,_,_,_,_,h,q=>Nat.le_trans h q
  | k+1,_,_,_,_,h,⟨m,h1,h2,h3⟩=>⟨m,Nat.le_trans h h1,fun h0=>by
      obtain ⟨g,cs,a,b,c,d⟩:=h2 h0
      exact ⟨g,cs,a,Nat.le_trans h b,c,d⟩,h3⟩
theorem OwnW.kept {w w':World} {B:Nat} (hk:∀g,B≤g→g<w.heap.size→w'.heap[g]?=w.heap[g]?):∀{k:Nat} {lo hi:Nat} {t:Tr},B≤lo→OwnW w k lo hi t→OwnW w' k lo hi t
  | 0,_,_,_,_,h=>h
  | k+1,lo,hi,t,hB,⟨m,h1,h2,h3⟩=>⟨m,h1,fun h0=>by
      obtain ⟨g,cs,a,b,c,d⟩:=h2 h0
      exact ⟨g,cs,a,b,c,(hk g (Nat.le_trans hB b) (At.lt d)).trans d⟩,
      OwnL.mono h3 (fun a b p ha _ q=>OwnW.kept hk (Nat.le_trans hB (Nat.le_trans h1 ha)) q) (fun _ _ _ q=>OwnW.le q)⟩
theorem OwnW.next {w w':World} {k lo hi:Nat} {t:Tr} (hb:Below w.heap.size w w') (h:OwnW w k lo hi t):OwnW w' k lo hi t:=OwnW.kept (B:=0) (fun g _ hg=>hb.block g hg) (Nat.zero_le _) h
theorem OwnW.only {g0:Nat} {w w':World} {k lo hi:Nat} {t:Tr} (ho:Only g0 w w') (hg:g0<lo) (h:OwnW w k lo hi t):OwnW w' k lo hi t:=OwnW.kept (B:=lo) (fun g h1 _=>ho.2.2.2.2 g (by omega)) (Nat.le_refl _) h
theorem OwnL.next {w w':World} {k lo hi:Nat} {ps:List Tr} (hb:Below w.heap.size w w') (h:OwnL (fun lo hi t=>OwnW w k lo hi t) hi lo ps):OwnL (fun lo hi t=>OwnW w' k lo hi t) hi lo ps:=h.mono (fun _ _ _ _ _ q=>q.next hb) (fun _ _ _ q=>q.le)
theorem OwnL.only {g0:Nat} {w w':World} {k lo hi:Nat} {ps:List Tr} (ho:Only g0 w w') (hg:g0<lo) (h:OwnL (fun lo hi t=>OwnW w k lo hi t) hi lo ps):OwnL (fun lo hi t=>OwnW w' k lo hi t) hi lo ps:=h.mono (fun _ _ _ ha _ q=>q.only ho (by omega)) (fun _ _ _ q=>q.le)
theorem range_put (n:Nat) (ps:Nat→Tr) (t:Tr):(List.range (n+1)).map (fun p=>if p=n then t else ps p)=(List.range n).map ps++[t]:=by
  rw[List.range_succ,List.map_append,List.map_singleton,if_pos rfl]
  congr 1
  exact List.map_congr_left (fun p hp=>if_neg (by have:=List.mem_range.1 hp;omega))
def MadeO (S:Nat→Tr→Tr) (k:Nat) (t:Tr) (w:World) (e:Ending) (w':World):Prop:=∃t2:Tr,e=.returned (.agg t2.cs.toArray)∧Tr.Ins w' k t2∧Tr.From w.heap.size k t2∧t2.strip k=S k t∧OwnW w' k w.heap.size w'.heap.size t2∧Below w.heap.size w w'
def MakesO (F:Nat) (S:Nat→Tr→Tr) (k:Nat):Prop:=∀(t:Tr) (w:World),Tr.In w k t→slimS k t→Calls Tryz.prog F #[.agg t.cs.toArray] w (MadeO S k t w)
def RowOwn (w w':World) (k n:Nat) (A:Option Addr) (ps:Nat→Tr):Prop:=(n=0→A=none)∧(0<n→∃g cs,A=some ⟨g,0,none⟩∧w.heap.size≤g∧At w' g 27 cs∧OwnL (fun lo hi t=>OwnW w' k lo hi t) w'.heap.size (g+1) ((List.range n).map ps))
def EachPostO (S:Nat→Tr→Tr) (k n:Nat) (parts:List Tr) (w:World) (e:Ending) (w':World):Prop :=
  ∃(A:Option Addr) (c:Nat) (ps:Nat→Tr),e=.returned (.slice A n c)∧(n=0→A=none∧c=0)∧RowOfI S w' w.heap.size k n A parts ps∧RowOwn w w' k n A ps∧Below w.heap.size w w'
theorem setCells_atO {w:World} {g:Nat} {t:TypeId} {cs:Array Value} (h:At w g t cs):∀(vs:List Value) (o:Nat),∃cs',At (w.setCells g o vs) g t cs'
  | [],_=>⟨cs,h⟩
  | v::r,o=>setCells_atO (At.set (by exact h) o v) r (o+1)
theorem eachOwn (S:Nat→Tr→Tr) (k c n b off:Nat) (parts:List Tr) (hF:MakesO 50 S k) (w:World) (hn:n=parts.length) (h0:0<n) (hn2:n≤2000) (hbw:b<w.heap.size)
    (hr:∀(j:Nat) (h:j<parts.length),w.rangeAt b (off+j*9) parts[j].cs) (hin:∀(j:Nat) (h:j<parts.length),Tr.In w k parts[j]) (hsl:∀(j:Nat) (h:j<parts.length),slimS k parts[j]) :
    Calls Tryz.prog 66 #[.slice (some ⟨b,off,none⟩) n c,.func (.func 50) #[] #[]] w (EachPostO S k n parts w):=by
  have HF:=Lib.hid hF
  have HN:=Lib.hid hn
  have HR:=Lib.hid hr
  have HI:=Lib.hid hin
  have HSl:=Lib.hid hsl
  have hm:=make_re n (by omega)
  have hne1:¬(n:Int)=0:=by omega
  have hne:=(int_ne hne1).1
  have H0:Hid (RowTr (w.alloc (.cells (madeCells Tr.blank.cs.toArray (n*9)) 27)) w.heap.size n (fun _=>Tr.blank)):=Lib.hid (made_row w n)
  have HB0:Hid (Below w.heap.size w (w.alloc (.cells (madeCells Tr.blank.cs.toArray (n*9)) 27))):=Lib.hid ((Below.refl _ _).alloc (Nat.le_refl _) _)
  have HO0:Hid (∃cs,At (w.alloc (.cells (madeCells Tr.blank.cs.toArray (n*9)) 27)) w.heap.size 27 cs):=Lib.hid ⟨_,At.new _ _ _⟩
  have HL0:Hid (w.heap.size+1≤(w.alloc (.cells (madeCells Tr.blank.cs.toArray (n*9)) 27)).heap.size):=Lib.hid (by rw[World.size_alloc];exact Nat.le_refl _)
  clear hF hn hr hin hsl
  go_enter Tryz.func66,Tryz.ntmps66
  go_wp2_with fail
  clear hm
  generalize hw1:w.alloc (.cells (madeCells Tr.blank.cs.toArray (n*9)) 27)=w1 at H0 HB0 HO0 HL0 ⊢
  clear hw1
  go_loopw [16] (fun i wr=>∃(j:Nat) (ps:Nat→Tr),j≤n∧i=.int .i64 j∧Hid (RowTr wr w.heap.size n ps)∧Hid (∀(p:Nat) (h:p<parts.length),p<j→Tr.Ins wr k (ps p)∧Tr.From (w.heap.size+1) k (ps p)∧(ps p).strip k=S k parts[p])∧Hid (Below w.heap.size w wr)∧Hid (∃cs,At wr w.heap.size 27 cs)∧Hid (OwnL (fun lo hi t=>OwnW wr k lo hi t) wr.heap.size (w.heap.size+1) ((List.range j).map ps))) (fun i _=>n-(intOf i).toNat)
  case atStart=>exact ⟨0,fun _=>Tr.blank,Nat.zero_le _,rfl,H0,Lib.hid (fun p _ hp=>absurd hp (Nat.not_lt_zero _)),HB0,HO0,HL0⟩
  case round =>
    clear H0 HB0 HO0 HL0
    obtain ⟨j,ps,hj,rfl,HP,HD,HB,HO,HL⟩:=hrel
    have hgl:=HP.out.lt h0
    by_cases hlt:j<n
    · have hlt':j<parts.length:=by rw[←HN.out];exact hlt
      have HRj:=Lib.hid (range_below (HR.out j hlt') hbw (Nat.le_refl _) HB.out)
      have HIj:=Lib.hid (((HI.out j hlt').next HB.out).next (boxW_next wr parts[j]))
      have HSj:=Lib.hid (HSl.out j hlt')
      have hA2:=boxW_at wr parts[j]
      obtain ⟨t,ht⟩:∃t,parts[j]=t:=⟨_,rfl⟩
      have HT:=Lib.hid ht
      rw[ht] at HRj HIj HSj hA2
      clear ht
      have HBx:=Lib.hid (boxW_below HB.out t)
      have hjz:(0:Int)≤(j:Int):=by omega
      have hjn:(j:Int)<(n:Int):=by omega
      go_wp2_with (first
        | (refine wpList_load_mid rfl 27 _ rfl b (off+j*9) rfl t.cs _ HRj.out Tryz.underlying27 rfl (by rw[Tr.cs_length];kernel_rfl) ?_)
        | (refine wpList_store_row rfl 27 _ _ rfl wr.heap.size t.cs.toArray rfl rfl 27 Tr.blank.cs.toArray (At.new _ _ _) (by kernel_rfl) rfl (Tr.one _) ?_;change Exit.then _ _ _ _ (boxW wr t))
        | (refine wpList_load_row rfl 27 _ rfl wr.heap.size rfl 27 t.cs.toArray (0,0) _ hA2 Tryz.underlying27 rfl (by kernel_rfl) ?_) | fail)
      refine (HF.out t _ HIj.out HSj.out).mono ?_
      rintro e w3 ⟨t2,rfl,hin2,hfr2,hst2,how2,hb3⟩
      have HOn:Hid (OwnL (fun lo hi t=>OwnW w3 k lo hi t) w3.heap.size (w.heap.size+1) ((List.range j).map ps++[t2])):=Lib.hid (OwnL.snoc (fun a a' b p h q=>q.lower h) ((HL.out.next (boxW_next wr t)).next hb3) (by rw[boxW_size];omega) how2 (Nat.le_refl _))
      have HO3:Hid (∃cs,At w3 w.heap.size 27 cs):=Lib.hid (by obtain ⟨cs,hc⟩:=HO.out;exact ⟨cs,At.below (At.below hc (boxW_next wr t) hgl) hb3 (by rw[boxW_size];omega)⟩)
      clear how2
      have hsz:=boxW_size wr t
      have HP3:=Lib.hid ((HP.out.below (boxW_next wr t) hgl).below hb3 (by rw[hsz];omega))
      have HB3:=Lib.hid (HBx.out.trans (hb3.mono HBx.out.size))
      have HD3:Hid (∀(p:Nat) (h:p<parts.length),p<j→Tr.Ins w3 k (ps p)∧Tr.From (w.heap.size+1) k (ps p)∧(ps p).strip k=S k parts[p]):=fun p hp hpj =>
        ⟨((HD.out p hp hpj).1.next (boxW_next wr t)).next hb3,(HD.out p hp hpj).2⟩
      have HI2:=Lib.hid hin2
      have HF2:=Lib.hid (Tr.From.lower (show w.heap.size+1≤(boxW wr t).heap.size by rw[hsz];omega) k t2 hfr2)
      have HS2:Hid (t2.strip k=S k parts[j]):=by rw[HT.out];exact hst2
      clear hin2 hfr2 hst2 hb3 hsz hA2
      have hone:=Tr.one t2
      have hth:w3.there w.heap.size (j*9) t2.cs.toArray.size:=HP3.out.there j hlt
      go_wp2_with (first
        | (with_reducible show wpList _ _ _ (⟨none,.store _ _ _,_,_,_,_⟩::_) _ _
           refine wpList_store_mid rfl 27 _ _ rfl w.heap.size (j*9) t2.cs.toArray rfl rfl hth (by kernel_rfl) hone ?_
           change wpList _ _ _ _ _ (putW w3 w.heap.size j t2)) | fail)
      have hO:=putW_only w3 w.heap.size j t2
      refine ⟨⟨j+1,fun p=>if p=j then t2 else ps p,by omega,by go_num,Lib.hid (putW_row HP3.out hlt t2),Lib.hid (fun p hp hpj=>?_),Lib.hid (HB3.out.trans (hO.below (Nat.le_refl _))),Lib.hid ?_,Lib.hid ?_⟩,by simp[intOf];omega⟩
      rotate_left
      · obtain ⟨cs,hc⟩:=HO3.out
        exact setCells_atO hc _ _
      · rw[range_put,hO.2.2.2.1]
        exact HOn.out.only hO (Nat.lt_succ_self _)
      by_cases e:p=j
      · subst e
        simp only[if_true]
        exact ⟨HI2.out.only HF2.out hO (by omega),HF2.out,HS2.out⟩
      · simp only[if_neg e]
        have hq:=HD3.out p hp (by omega)
        exact ⟨hq.1.only hq.2.1 hO (by omega),hq.2.1,hq.2.2⟩
    · obtain rfl:j=n:=by omega
      go_wp2_with fail
      go_ret
      exact ⟨_,_,ps,rfl,fun e=>absurd e (by omega),fun _=>⟨w.heap.size,rfl,Nat.le_refl _,hgl,HP.out,fun p hp=>HD.out p hp (by rw[HN.out];exact hp)⟩,⟨fun e=>absurd e (by omega),fun _=>by obtain ⟨cs,hc⟩:=HO.out;exact ⟨w.heap.size,cs,rfl,Nat.le_refl _,hc,HL.out⟩⟩,HB.out⟩
theorem eachOwnAny (S:Nat→Tr→Tr) (k:Nat) (hF:MakesO 50 S k) (t:Tr) (w:World) (h:Tr.In w (k+1) t) (hs:slimS (k+1) t) :
    Calls Tryz.prog 66 #[.slice t.addr t.parts.length t.cap,.func (.func 50) #[] #[]] w (EachPostO S k t.parts.length t.parts w):=by
  by_cases h0:t.parts.length=0
  · rw[h0]
    refine (eachNil S k t.cap t.addr w).mono ?_
    rintro e w' ⟨rfl,hb⟩
    exact ⟨none,0,fun _=>Tr.blank,rfl,fun _=>⟨rfl,rfl⟩,fun q=>absurd q (Nat.lt_irrefl _),⟨fun _=>rfl,fun q=>absurd q (Nat.lt_irrefl _)⟩,hb⟩
  · obtain ⟨b,off,ha,hb,hr⟩:=h.2.2.1 (by rw[h.2.1.1];omega)
    rw[ha]
    exact eachOwn S k t.cap t.parts.length b off t.parts hF w rfl (by omega) hs.1 hb hr h.2.2.2 (fun j hj=>hs.2 _ (List.getElem_mem hj))
theorem RowOwn.whole {w w2 w3 w':World} {k n c:Nat} {A:Option Addr} {ps:Nat→Tr} {kd lo hi:Int} {set:St} {neg:Bool} (h:RowOwn w2 w3 k n A ps) (h2:w.heap.size≤w2.heap.size) (h3:w2.heap.size≤w'.heap.size) (hs:w'.heap.size=w3.heap.size) (hk:∀b,w2.heap.size≤b→b<w3.heap.size→w'.heap[b]?=w3.heap[b]?) :
    OwnW w' (k+1) w.heap.size w'.heap.size (.node kd set A n c ((List.range n).map ps) lo hi neg):=by
  by_cases h0:0<n
  · obtain ⟨g,cs,e,hg,hA,hL⟩:=h.2 h0
    refine ⟨g+1,by omega,fun _=>⟨g,cs,e,by omega,Nat.lt_succ_self _,(hk g hg (At.lt hA)).trans hA⟩,?_⟩
    rw[hs]
    exact hL.mono (fun a b p ha _ q=>OwnW.kept (B:=w2.heap.size) hk (by omega) q) (fun _ _ _ q=>q.le)
  · obtain rfl:n=0:=by omega
    exact ⟨w'.heap.size,by omega,fun q=>absurd q (Nat.lt_irrefl _),Nat.le_refl _⟩
theorem copied_own (k:Nat) (ih:MakesO 50 (fun k t=>Tr.strip k t) k) (t:Tr) (w:World) (h:Tr.In w (k+1) t) (hs:slimS (k+1) t) :
    Calls Tryz.prog 50 #[.agg t.cs.toArray] w (MadeO (fun k t=>Tr.strip k t) (k+1) t w):=by
  have hn:=h.2.1.1
  have HN:=Lib.hid hn
  have HI:=Lib.hid h
  have HIH:=Lib.hid ih
  have HSl:=Lib.hid hs
  obtain ⟨w2,hw2⟩:∃w2,w2=(w.alloc (.cells t.cs.toArray 27)).alloc (.cells #[.int .i64 0,.int .u64 0,.int .u64 0,.int .u64 0,.int .u64 0,.slice none 0 0,.int .i64 0,.int .i64 0,.bool false] 27):=⟨_,rfl⟩
  have HA0:Hid (At w2 w.heap.size 27 t.cs.toArray):=Lib.hid (by rw[hw2];exact (At.new _ _ _).alloc _)
  have HZ0:Hid (At w2 (w.heap.size+1) 27 Tr.blank.cs.toArray):=Lib.hid (by rw[hw2];exact at_new' (w.alloc (.cells t.cs.toArray 27)) (w.heap.size+1) 27 (cs:=Tr.blank.cs.toArray) (by simp))
  have HB0:Hid (Below w.heap.size w w2):=Lib.hid (by rw[hw2];exact below_two _ _)
  have HW2:=Lib.hid hw2
  have hsz2:w2.heap.size=w.heap.size+2:=by rw[hw2];simp
  have HSz:=Lib.hid hsz2
  obtain ⟨c0,c5,c6,c7,c8⟩:=At.tr_cell HA0.out
  rw[hw2] at c5
  rw[hn] at c5
  clear h hs ih hn hw2 hsz2 c0 c6 c7 c8
  go_enter Tryz.func50,Tryz.ntmps50
  go_wp2_with fail
  rw[←HW2.out]
  refine (eachOwnAny (fun k t=>Tr.strip k t) k HIH.out t _ (HI.out.next HB0.out) HSl.out).mono ?_
  rintro e w3 ⟨A,c2,ps,rfl,hA0,hrow,how,hb3⟩
  have HOw:Hid (RowOwn w2 w3 k t.parts.length A ps):=Lib.hid how
  have HS3:Hid (w2.heap.size≤w3.heap.size):=Lib.hid hb3.size
  clear how
  have HA3:=Lib.hid (HA0.out.below hb3 HA0.out.lt)
  have HZ3:=Lib.hid (HZ0.out.below hb3 HZ0.out.lt)
  have HB3:=Lib.hid (HB0.out.trans (hb3.mono HB0.out.size))
  have HR3:Hid (RowOfI (fun k t=>Tr.strip k t) w3 (w.heap.size+2) k t.parts.length A t.parts ps):=Lib.hid (by rw[←HSz.out];exact hrow)
  have HN0:=Lib.hid hA0
  clear hb3 hrow hA0 c5
  have q5:=HA3.out.cell 5
  have f5:=HA3.out.free 5
  have c0:=HA3.out.cell 0
  have f0:=HA3.out.free 0
  have r0:t.cs.toArray[0]?=some (.int .i64 t.kind):=rfl
  have r5:t.cs.toArray[5]?=some (.slice t.addr t.n t.cap):=rfl
  rw[r5] at q5
  rw[r0] at c0
  clear r0 r5
  have hAu:At (w3.setCell ⟨w.heap.size,5,none⟩ (.slice A t.parts.length c2)) w.heap.size 27 (Tr.node t.kind t.set A t.parts.length c2 ((List.range t.parts.length).map (ps)) t.lo t.hi t.neg).cs.toArray:=HA3.out.set 5 _
  have hZu:At (w3.setCell ⟨w.heap.size,5,none⟩ (.slice A t.parts.length c2)) (w.heap.size+1) 27 Tr.blank.cs.toArray:=HZ3.out.other (p:=⟨w.heap.size,5,none⟩) (by dsimp only;omega) _
  have hRu:RowOfI (fun k t=>Tr.strip k t) (w3.setCell ⟨w.heap.size,5,none⟩ (.slice A t.parts.length c2)) (w.heap.size+2) k t.parts.length A (t.parts) (ps):=HR3.out.only ((Only.refl w.heap.size w3).cell 5 _) (by omega)
  have hBu:Below w.heap.size w (w3.setCell ⟨w.heap.size,5,none⟩ (.slice A t.parts.length c2)):=HB3.out.setCell (Nat.le_refl _) _
  have hone:=Tr.one (Tr.node t.kind t.set A t.parts.length c2 ((List.range t.parts.length).map (ps)) t.lo t.hi t.neg)
  have HAu:=Lib.hid hAu
  have HZu:=Lib.hid hZu
  have HRu:=Lib.hid hRu
  have HBu:=Lib.hid hBu
  clear hAu hZu hRu hBu
  go_wp2_with (first
    | (refine wpList_load_row rfl 27 _ rfl w.heap.size rfl 27 (Tr.node t.kind t.set A t.parts.length c2 ((List.range t.parts.length).map (ps)) t.lo t.hi t.neg).cs.toArray (0,0) _ HAu.out Tryz.underlying27 rfl (by kernel_rfl) ?_)
    | (with_reducible show wpList _ _ _ (⟨none,.store _ _ _,_,_,_,_⟩::_) _ _
       refine wpList_store_row rfl 27 _ _ rfl (w.heap.size+1) (Tr.node t.kind t.set A t.parts.length c2 ((List.range t.parts.length).map (ps)) t.lo t.hi t.neg).cs.toArray rfl rfl 27 Tr.blank.cs.toArray HZu.out (by kernel_rfl) rfl hone ?_) | fail)
  have hO:Only (w.heap.size+1) (w3.setCell ⟨w.heap.size,5,none⟩ (.slice A t.parts.length c2)) ((w3.setCell ⟨w.heap.size,5,none⟩ (.slice A t.parts.length c2)).setRow (w.heap.size+1) (Tr.node t.kind t.set A t.parts.length c2 ((List.range t.parts.length).map (ps)) t.lo t.hi t.neg).cs.toArray):=Only.row _ _ _
  obtain ⟨m1,m2,m3⟩:=made_inI (c:=c2) (lo:=t.lo) (hi:=t.hi) (neg:=t.neg) (kd:=t.kind) HI.out.1.1 HI.out.1.2.1 HI.out.1.2.2.1 HI.out.1.2.2.2 (by rfl) HSl.out.1 (HRu.out.only hO (by omega))
  exact bodyPost_ret (results_cell_row Tryz.results50 _ _ (w.heap.size+1) 27 (Tr.node t.kind t.set A t.parts.length c2 ((List.range t.parts.length).map (ps)) t.lo t.hi t.neg).cs.toArray (0,0) _ rfl (HZu.out.row _) Tryz.underlying27 rfl (by kernel_rfl)) rfl ⟨_,rfl,m1,m2.lower (by omega),m3.trans (by rfl),by
    have e3:∀b,w.heap.size+2≤b→((w3.setCell ⟨w.heap.size,5,none⟩ (.slice A t.parts.length c2)).setRow (w.heap.size+1) (Tr.node t.kind t.set A t.parts.length c2 ((List.range t.parts.length).map (ps)) t.lo t.hi t.neg).cs.toArray).heap[b]?=w3.heap[b]?:=fun b hb=>(hO.2.2.2.2 b (by omega)).trans (Below.heap_setCell w3 ⟨w.heap.size,5,none⟩ _ b (by dsimp only;omega))
    refine RowOwn.whole (w2:=w2) (w3:=w3) HOw.out (by rw[HSz.out];omega) (by rw[hO.2.2.2.1,World.size_setCell];exact HS3.out) (by rw[hO.2.2.2.1,World.size_setCell]) (fun b hb _=>e3 b (by rw[HSz.out] at hb;exact hb)),HBu.out.trans (hO.below (by omega))⟩
theorem copiedOwn:∀k,MakesO 50 (fun k t=>Tr.strip k t) k
  | 0=>fun _ _ h=>h.elim
  | k+1=>fun t w h hs=>copied_own k (copiedOwn k) t w h hs
theorem tCloneO (t:Tr) (w:World) (h:Tr.Ins w 40 t) (hs:slimS 40 t) (hm:massS 40 t≤4000000) :
    Calls Tryz.prog 40 #[.agg t.cs.toArray] w (MadeO (fun k t=>Tr.strip k t) 40 t w):=by
  obtain ⟨w2,hw2⟩:∃w2,w2=(w.alloc (.cells t.cs.toArray 27)).alloc (.cells #[.int .i64 0,.int .u64 0,.int .u64 0,.int .u64 0,.int .u64 0,.slice none 0 0,.int .i64 0,.int .i64 0,.bool false] 27):=⟨_,rfl⟩
  have HA0:Hid (At w2 w.heap.size 27 t.cs.toArray):=Lib.hid (by rw[hw2];exact (At.new _ _ _).alloc _)
  have HZ0:Hid (At w2 (w.heap.size+1) 27 Tr.blank.cs.toArray):=Lib.hid (by rw[hw2];exact at_new' (w.alloc (.cells t.cs.toArray 27)) (w.heap.size+1) 27 (cs:=Tr.blank.cs.toArray) (by simp))
  have HB0:Hid (Below w.heap.size w w2):=Lib.hid (by rw[hw2];exact below_two _ _)
  have HW2:=Lib.hid hw2
  have hA:At ((w.alloc (.cells t.cs.toArray 27)).alloc (.cells #[.int .i64 0,.int .u64 0,.int .u64 0,.int .u64 0,.int .u64 0,.slice none 0 0,.int .i64 0,.int .i64 0,.bool false] 27)) w.heap.size 27 t.cs.toArray:=(At.new _ _ _).alloc _
  have HI:=Lib.hid (h.next HB0.out)
  have HSL:=Lib.hid hs
  have HM:=Lib.hid hm
  clear hw2 h hs hm
  go_enter Tryz.func40,Tryz.ntmps40
  go_wp2_with (first | (refine wpList_load_row rfl 27 _ rfl w.heap.size rfl 27 t.cs.toArray (0,0) _ hA Tryz.underlying27 rfl (by kernel_rfl) ?_) | fail)
  rw[←HW2.out]
  clear hA
  refine (tDeep 40 t w2 HI.out HM.out).mono ?_
  rintro e w3 ⟨d,rfl,hd1,hd2,hd3,hb3⟩
  have hdd:¬(40:Int)<(d:Int):=by omega
  have HA3:=Lib.hid (At.below HA0.out hb3 HA0.out.lt)
  have HZ3:=Lib.hid (At.below HZ0.out hb3 HZ0.out.lt)
  have HI3:=Lib.hid (HI.out.next hb3)
  have HB3:=Lib.hid (HB0.out.trans (hb3.mono HB0.out.size))
  clear hd1 hd2 hd3 hb3
  go_wp2_with (first | (refine wpList_load_row rfl 27 _ rfl w.heap.size rfl 27 t.cs.toArray (0,0) _ HA3.out Tryz.underlying27 rfl (by kernel_rfl) ?_) | fail)
  refine (copiedOwn 40 t w3 HI3.out.1 HSL.out).mono ?_
  rintro e w4 ⟨t2,rfl,hin,hfr,hst,how,hb4⟩
  have HOw:=Lib.hid how
  clear how
  have HZ4:=Lib.hid (At.below HZ3.out hb4 HZ3.out.lt)
  have HB4:=Lib.hid (HB3.out.trans (hb4.mono HB3.out.size))
  have HIn:=Lib.hid hin
  have HF4:=Lib.hid hfr
  have HST:=Lib.hid hst
  have HSz:Hid (w.heap.size+2≤w3.heap.size):=Lib.hid HZ3.out.lt
  have hone:=Tr.one t2
  clear hin hfr hst hb4
  go_wp2_with (first
    | (with_reducible show wpList _ _ _ (⟨none,.store _ _ _,_,_,_,_⟩::_) _ _
       refine wpList_store_row rfl 27 _ _ rfl (w.heap.size+1) t2.cs.toArray rfl rfl 27 Tr.blank.cs.toArray HZ4.out (by kernel_rfl) rfl hone ?_) | fail)
  have ho:Only (w.heap.size+1) w4 (w4.setRow (w.heap.size+1) t2.cs.toArray):=Only.row _ _ _
  exact bodyPost_ret (results_cell_row Tryz.results40 _ _ (w.heap.size+1) 27 t2.cs.toArray (0,0) _ rfl (HZ4.out.row _) Tryz.underlying27 rfl (by kernel_rfl)) rfl ⟨t2,rfl,HIn.out.only HF4.out ho (by have:=HSz.out;omega),HF4.out.lower (by have:=HSz.out;omega),HST.out,by rw[ho.2.2.2.1];exact ((HOw.out.only ho (by have:=HSz.out;omega)).lower (by have:=HSz.out;omega)),HB4.out.trans (ho.below (by omega))⟩
end Go.Proofs.YtgmpfnfomgadeaaGreat
