/- Joined: Below, DeepT. -/
import Derived.Test.YtgmpfnfomgadeaaGreatMai
/- tree.below: the lists one level below, whatever the map of places says of them. -/
set_option linter.unusedSimpArgs false
set_option linter.unusedVariables false
set_option maxHeartbeats 8000000
set_option maxRecDepth 100000
namespace Go.Proofs.YtgmpfnfomgadeaaGreat
open Go.RowKit
def PL (w:World) (k:Nat) (u:Value) (ms:List Tr):Prop :=
  ∃b off cap,u=.slice (some ⟨b,off,none⟩) ms.length cap∧0<ms.length∧b<w.heap.size∧w.frozen? ⟨b,off,none⟩=false∧(∀(j:Nat) (h:j<ms.length),w.rangeAt b (off+j*9) ms[j].cs)∧∀p∈ms,Tr.Ins w k p
theorem PL.next {w w':World} {k:Nat} {u:Value} {ms:List Tr} (h:PL w k u ms) (hb:Below w.heap.size w w'):PL w' k u ms:=by
  obtain ⟨b,off,cap,h1,h2,h3,h4,h5,h6⟩:=h
  exact ⟨b,off,cap,h1,h2,Nat.lt_of_lt_of_le h3 hb.size,by rw[World.frozen?_of_block (w:=w) (hb.block b h3)];exact h4,fun j hj=>range_below (h5 j hj) h3 (Nat.le_refl _) hb,fun p hp=>(h6 p hp).next hb⟩
theorem part_pl {w:World} {k:Nat} {t:Tr} (h:Tr.Ins w (k+1) t) (h0:0<t.parts.length):PL w k (.slice t.addr t.parts.length t.cap) t.parts:=by
  have hn:0<t.n:=by rw[h.1.2.1.1];exact h0
  obtain ⟨b,off,e,hlt,hr⟩:=h.1.2.2.1 hn
  exact ⟨b,off,t.cap,by rw[e],h0,hlt,h.2.1 hn b off e,hr,fun p hp=>by
    obtain ⟨j,hj,rfl⟩:=List.getElem_of_mem hp
    exact ⟨h.1.2.2.2 j hj,h.2.2 _ hp⟩⟩
theorem solid_at {w:World} {b off:Nat} {cs:List Value} {v:Value} (hf:w.frozen? ⟨b,off,none⟩=false) (hr:w.rangeAt b off (v::cs)):Solid w ⟨b,off,none⟩:=by
  refine ⟨?_,hf⟩
  have:=hr 0 v rfl
  unfold World.cell? at this
  unfold World.shape?
  dsimp only at this ⊢
  split at this
  · rfl
  · cases this
def ArgAt (w:World) (v:Value) (us:List Value):Prop:=∃A cap,v=.slice A us.length cap∧(0<us.length→∃b off,A=some ⟨b,off,none⟩∧b<w.heap.size∧w.rangeAt b off us)
theorem ArgAt.next {w w':World} {v:Value} {us:List Value} (h:ArgAt w v us) (hb:Below w.heap.size w w'):ArgAt w' v us:=by
  obtain ⟨A,cap,h1,h2⟩:=h
  refine ⟨A,cap,h1,fun h0=>?_⟩
  obtain ⟨b,off,e,hlt,hr⟩:=h2 h0
  exact ⟨b,off,e,Nat.lt_of_lt_of_le hlt hb.size,range_below hr hlt (Nat.le_refl _) hb⟩
theorem owned_arg {w:World} {base n:Nat} {e:TypeId} {v:Value} {us:List Value} (h:w.ownsRow base e 1 v n us):ArgAt w v us:=by
  obtain ⟨hl,h | ⟨g,cap,cur,e1,hb,hh,h1,h2,h3,h4⟩⟩:=h
  · have:us.length=0:=by rw[hl,h.2]
    exact ⟨none,0,by rw[h.1,this],fun q=>absurd q (by omega)⟩
  · have hl':us.length=n:=by rw[hl,Nat.mul_one]
    refine ⟨some ⟨g,0,none⟩,cap,by rw[e1,hl'],fun h0=>⟨g,0,rfl,?_,fun i u hu=>?_⟩⟩
    · rcases Nat.lt_or_ge g w.heap.size with q | q
      · exact q
      · rw[Array.getElem?_eq_none q] at hh;cases hh
    · have hA:At w g e cur:=hh
      have hi:i<us.length:=(List.getElem?_eq_some_iff.1 hu).1
      rw[Nat.zero_add,hA.cell]
      rw[←h4,List.getElem?_take_of_lt (by omega)] at hu
      simpa using hu
def boxP (w:World) (a:Addr) (n:Int):World:=(w.alloc (.cells #[.pointer none,.int .i64 0] 97)).setRow w.heap.size #[.pointer (some a),.int .i64 n]
theorem boxP_at (w:World) (a:Addr) (n:Int):At (boxP w a n) w.heap.size 97 #[.pointer (some a),.int .i64 n]:=At.row (At.new w 97 #[.pointer none,.int .i64 0]) _
theorem boxP_next (w:World) (a:Addr) (n:Int):Below w.heap.size w (boxP w a n):=((Below.refl _ _).alloc (Nat.le_refl _) _).trans ((Only.row _ _ _).below (Nat.le_refl _))
theorem tPlaceOf (b off n c:Nat) (h0:0<n) (w:World):Calls Tryz.prog 62 #[.slice (some ⟨b,off,none⟩) n c] w fun e w'=>e=.returned (.agg #[.pointer (some ⟨b,off,none⟩),.int .i64 n])∧Below w.heap.size w w':=by
  have hl0:(0:Int)<(n:Int):=by omega
  have hz:At (w.alloc (.cells #[.pointer none,.int .i64 0] 97)) w.heap.size 97 #[.pointer none,.int .i64 0]:=At.new _ _ _
  go_enter Tryz.func62,Tryz.ntmps62
  go_wp2_with fail
  exact bodyPost_ret (results_cell_row Tryz.results62 _ _ w.heap.size 97 #[.pointer (some ⟨b,off,none⟩),.int .i64 n] (0,0) _ rfl (At.new _ _ _) Tryz.underlying97 rfl (by kernel_rfl)) rfl ⟨rfl,(Below.refl _ _).alloc (Nat.le_refl _) _⟩
theorem info_sl:(Tryz.prog.info? 25).map (fun i=>(i.zero,i.size,i.bytes))=some (some (.slice none 0 0),1,24):=by kernel_rfl
theorem make_map (w:World):(Instr.makeMap 120 none).run Tryz.prog w=.ok (.map (some w.heap.size)) (w.alloc (.map #[] 0)):=by kernel_rfl
theorem map_new (w:World):MapAt (w.alloc (.map #[] 0)) w.heap.size:=⟨#[],0,heap_alloc_new w _,fun e he=>by cases he⟩
structure BI (w:World) (k:Nat) (wr:World) (nx:Value) (ns:List (Value×List Tr)) (S:Nat):Prop where
  own:wr.ownsRow (w.heap.size+1) 25 1 nx ns.length (ns.map (·.1))
  pls:∀p∈ns,PL w k p.1 p.2
  sum:(ns.map (fun p=>lmS k p.2)).sum≤S
  map:MapAt wr w.heap.size
  below:Below w.heap.size w wr
  size:w.heap.size+1≤wr.heap.size
theorem BI.next {w wr wr':World} {k S:Nat} {nx:Value} {ns:List (Value×List Tr)} (h:BI w k wr nx ns S) (hb:Below wr.heap.size wr wr'):BI w k wr' nx ns S:=by
  refine ⟨?_,h.pls,h.sum,h.map.next hb,h.below.trans (hb.mono h.below.size),Nat.le_trans h.size hb.size⟩
  obtain ⟨h1,h2⟩:=h.own
  refine ⟨h1,?_⟩
  rcases h2 with h2 | ⟨b,cap,cur,hv,hbb,hh,r⟩
  · exact Or.inl h2
  · refine Or.inr ⟨b,cap,cur,hv,hbb,?_,r⟩
    have hlt:b<wr.heap.size:=by
      rcases Nat.lt_or_ge b wr.heap.size with q | q
      · exact q
      · rw[Array.getElem?_eq_none q] at hh;cases hh
    rw[hb.block b hlt];exact hh
theorem BI.more {w wr:World} {k S S':Nat} {nx:Value} {ns:List (Value×List Tr)} (h:BI w k wr nx ns S) (hS:S≤S'):BI w k wr nx ns S':=⟨h.own,h.pls,Nat.le_trans h.sum hS,h.map,h.below,h.size⟩
theorem BI.mapped {w wr wr':World} {k S:Nat} {nx:Value} {ns:List (Value×List Tr)} (h:BI w k wr nx ns S) (hg:wr.grownBy wr' (some w.heap.size)) (hm:MapAt wr' w.heap.size):BI w k wr' nx ns S :=
  ⟨ownsRow_grown h.own hg (Nat.lt_succ_self _),h.pls,h.sum,hm,h.below.trans (grownBy_lo hg h.below.size),Nat.le_trans h.size hg.size⟩
theorem pls_len {w:World} {k:Nat} (l:List (Value×List Tr)) (h:∀p∈l,PL w k p.1 p.2):l.length≤(l.map (fun p=>lmS k p.2)).sum:=by
  induction l with
  | nil=>exact Nat.le_refl 0
  | cons p r ih =>
    have h1:=ih (fun q hq=>h q (List.mem_cons_of_mem _ hq))
    obtain ⟨_,_,_,_,h2,_⟩:=h p (by simp)
    have:=lm_pos (k:=k) h2
    rw[List.map_cons,List.sum_cons,List.length_cons];omega
theorem lm_len (k:Nat) (ms:List Tr):ms.length≤lmS k ms:=by
  induction ms with
  | nil=>exact Nat.le_refl 0
  | cons t r ih=>have:=mass_pos k t;unfold lmS at *;rw[List.map_cons,List.sum_cons,List.length_cons];omega
theorem BI.len {w wr:World} {k S:Nat} {nx:Value} {ns:List (Value×List Tr)} (h:BI w k wr nx ns S):ns.length≤S:=Nat.le_trans (pls_len ns h.pls) h.sum
theorem sum_take_succ {α:Type} (f:α→Nat) (l:List α) (j:Nat) (h:j<l.length):((l.take (j+1)).map f).sum=((l.take j).map f).sum+f l[j]:=by
  rw[List.take_succ_eq_append_getElem h,List.map_append,List.sum_append];simp
theorem sum_take_le {α:Type} (f:α→Nat) (l:List α) (j:Nat):((l.take j).map f).sum≤(l.map f).sum:=by
  have h:(l.map f).sum=((l.take j).map f).sum+((l.drop j).map f).sum:=by rw[←List.sum_append,←List.map_append,List.take_append_drop]
  omega
theorem tBelow (k:Nat) (v:Value) (ps:List (Value×List Tr)) (w:World) (hv:ArgAt w v (ps.map (·.1))) (hp:∀p∈ps,PL w (k+1) p.1 p.2) (hM:(ps.map (fun p=>lmS (k+1) p.2)).sum≤4000000) :
    Calls Tryz.prog 65 #[v] w fun e w'=>∃(v':Value) (ps':List (Value×List Tr)),e=.returned v'∧ArgAt w' v' (ps'.map (·.1))∧(∀p∈ps',PL w' k p.1 p.2)∧(ps'.map (fun p=>lmS k p.2)).sum≤(ps.map (fun p=>lmS (k+1) p.2)).sum∧Below w.heap.size w w':=by
  obtain ⟨A,cap,rfl,hr⟩:=hv
  have hln:(ps.map (·.1)).length=ps.length:=List.length_map _
  rw[hln] at hr ⊢
  have HR:=Lib.hid hr
  have HPS:=Lib.hid hp
  have HM:=Lib.hid hM
  have hpl:ps.length≤4000000:=Nat.le_trans (pls_len ps hp) hM
  have hmk:=make_map w
  obtain ⟨i0,hi0,hz0,hz1,hz2⟩:=info_parts info_sl
  have hz1':i0.size=1:=hz1
  have HBI:=Lib.hid (show BI w k (w.alloc (.map #[] 0)) (.slice none 0 0) [] (((ps.take 0).map (fun p=>lmS (k+1) p.2)).sum) from ⟨⟨rfl,Or.inl ⟨rfl,rfl⟩⟩,fun p hp=>absurd hp List.not_mem_nil,Nat.zero_le _,map_new w,(Below.refl _ _).alloc (Nat.le_refl _) _,by simp⟩)
  clear hr hp hM hln
  go_enter Tryz.func65,Tryz.ntmps65
  go_wp2_with fail
  clear hmk
  generalize w.alloc (.map #[] 0)=w1 at HBI ⊢
  go_loopw [3,15] (fun nx i wr=>∃(d:Nat) (ns:List (Value×List Tr)),d≤ps.length∧i=.int .i64 d∧Hid (BI w k wr nx ns (((ps.take d).map (fun p=>lmS (k+1) p.2)).sum))) (fun _ i _=>ps.length-(intOf i).toNat)
  case atStart=>exact ⟨0,[],Nat.zero_le _,rfl,HBI⟩
  case round =>
    clear HBI
    obtain ⟨d,ns,hd,rfl,HBI⟩:=hrel
    by_cases hlt:d<ps.length
    · obtain ⟨b,off,rfl,hb,hr⟩:=HR.out (by omega)
      have hpd:=HPS.out _ (List.getElem_mem hlt)
      have hrd:wr.cell? ⟨b,off+d,none⟩=some ps[d].1:=by
        have:=hr d ps[d].1 (by rw[List.getElem?_map,List.getElem?_eq_getElem hlt];rfl)
        rw[World.cell?_of_block (w:=w) (HBI.out.below.block b hb)];exact this
      have hdz:(0:Int)≤(d:Int):=by omega
      have hdn:(d:Int)<(ps.length:Int):=by omega
      have HSum:=Lib.hid (sum_take_succ (fun p:Value×List Tr=>lmS (k+1) p.2) ps d hlt)
      generalize hpp:ps[d]=pd at hpd hrd HSum
      obtain ⟨u,ms⟩:=pd
      obtain ⟨b1,o1,c1,hu,hm0,hb1,hf1,hr1,hin1⟩:=hpd
      have hu':u=.slice (some ⟨b1,o1,none⟩) ms.length c1:=hu
      subst hu'
      have HML:=Lib.hid hm0
      have HB1:=Lib.hid hb1
      have HR1:=Lib.hid hr1
      have HI1:=Lib.hid hin1
      have HSS:Hid (((ps.take (d+1)).map (fun p=>lmS (k+1) p.2)).sum≤4000000):=Lib.hid (Nat.le_trans (sum_take_le _ _ _) HM.out)
      have hml:ms.length≤4000000:=by
        have h1:=lm_len (k+1) ms
        have h2:=HSum.out
        have h3:=HSS.out
        dsimp only at h2
        omega
      clear hb hr hpp hu hm0 hb1 hf1 hr1 hin1
      generalize ((ps.take d).map (fun p=>lmS (k+1) p.2)).sum=S0 at HBI HSum
      go_wp2_with fail
      clear hrd
      go_loopw [3,21] (fun nx i wr=>∃(j:Nat) (ns:List (Value×List Tr)),j≤ms.length∧i=.int .i64 j∧Hid (BI w k wr nx ns (S0+((ms.take j).map (massS (k+1))).sum))) (fun _ i _=>ms.length-(intOf i).toNat)
      case atStart=>exact ⟨0,ns,Nat.zero_le _,rfl,Lib.hid (HBI.out.more (Nat.le_add_right _ _))⟩
      case round =>
        clear HBI
        obtain ⟨j,ns,hj,rfl,HBI⟩:=hrel
        by_cases hjlt:j<ms.length
        · have hjz:(0:Int)≤(j:Int):=by omega
          have hjn:(j:Int)<(ms.length:Int):=by omega
          have HRj:=Lib.hid (range_below (HR1.out j hjlt) HB1.out (Nat.le_refl _) HBI.out.below)
          have HIj:=Lib.hid (HI1.out _ (List.getElem_mem hjlt))
          have HSj:=Lib.hid (sum_take_succ (massS (k+1)) ms j hjlt)
          have HSl:=Lib.hid (sum_take_le (massS (k+1)) ms (j+1))
          generalize ms[j]=t at HRj HIj HSj
          have hone:=Tr.one t
          have hbx:=boxW_next wr t
          have HBx:=Lib.hid (boxW_at wr t)
          have HBI2:=Lib.hid (HBI.out.next hbx)
          have c5:=HBx.out.cell 5
          rw[show t.cs.toArray[5]?=some (.slice t.addr t.n t.cap) from rfl,HIj.out.1.2.1.1] at c5
          have f5:=HBx.out.free 5
          clear hbx
          by_cases h0:t.parts.length=0
          · rw[h0] at c5
            clear h0
            go_wp2_with (first
              | (refine wpList_load_mid rfl 27 _ rfl b1 (o1+j*9) rfl t.cs _ HRj.out Tryz.underlying27 rfl (by rw[Tr.cs_length];kernel_rfl) ?_)
              | (with_reducible show wpList _ _ _ (⟨none,.store _ _ _,_,_,_,_⟩::_) _ _
                 refine wpList_store_row rfl 27 _ _ rfl wr.heap.size t.cs.toArray rfl rfl 27 Tr.blank.cs.toArray (At.new _ _ _) (by kernel_rfl) rfl hone ?_
                 change Exit.then _ _ _ _ (boxW wr t))
              | fail)
            exact ⟨⟨j+1,ns,by omega,by go_num,Lib.hid (HBI2.out.more (by rw[HSj.out];omega))⟩,by simp[intOf];omega⟩
          · have hpl2:=part_pl HIj.out (by omega)
            obtain ⟨b2,o2,c2,hu,hp0,hb2,hf2,hr2,hin2⟩:=id hpl2
            have hu':t.addr=some ⟨b2,o2,none⟩:=by injection hu
            have hc':t.cap=c2:=by injection hu
            have HPL:=Lib.hid hpl2
            have hsol:Solid w ⟨b2,o2,none⟩:=by
              have h:=hr2 0 hp0
              rw[Nat.zero_mul,Nat.add_zero] at h
              exact solid_at hf2 h
            have HSO:=Lib.hid hsol
            have HB2:=Lib.hid hb2
            rw[hu'] at c5
            have hne1:¬(t.parts.length:Int)=0:=by omega
            have hne:=(int_ne hne1).1
            have HU:=Lib.hid hu'
            clear hpl2 hu hu' hc' hsol hb2 hf2 hr2 hin2 hne1 h0
            go_wp2_with (first
              | (refine wpList_load_mid rfl 27 _ rfl b1 (o1+j*9) rfl t.cs _ HRj.out Tryz.underlying27 rfl (by rw[Tr.cs_length];kernel_rfl) ?_)
              | (with_reducible show wpList _ _ _ (⟨none,.store _ _ _,_,_,_,_⟩::_) _ _
                 refine wpList_store_row rfl 27 _ _ rfl wr.heap.size t.cs.toArray rfl rfl 27 Tr.blank.cs.toArray (At.new _ _ _) (by kernel_rfl) rfl hone ?_
                 change Exit.then _ _ _ _ (boxW wr t))
              | fail)
            refine (tPlaceOf b2 o2 t.parts.length t.cap hp0 (boxW wr t)).mono ?_
            rintro e w4 ⟨rfl,hb4⟩
            have hbp:=boxP_next w4 ⟨b2,o2,none⟩ t.parts.length
            have HPx:=Lib.hid (boxP_at w4 ⟨b2,o2,none⟩ t.parts.length)
            have HBI3:=Lib.hid ((HBI2.out.next hb4).next hbp)
            have HBx3:=Lib.hid (At.below (At.below HBx.out hb4 HBx.out.lt) hbp (Nat.lt_of_lt_of_le HBx.out.lt hb4.size))
            have HSO3:=Lib.hid (HSO.out.block (w':=boxP w4 ⟨b2,o2,none⟩ t.parts.length) (HBI3.out.below.block b2 HB2.out))
            obtain ⟨fb,q,hlk⟩:=lookup_any (boxP w4 ⟨b2,o2,none⟩ t.parts.length) w.heap.size ⟨b2,o2,none⟩ t.parts.length HBI3.out.map HSO3.out
            unfold placeV unitV at hlk
            clear hb4 hbp c5 f5
            have hzs:(zeroValue 100).run Tryz.prog ((boxP w4 ⟨b2,o2,none⟩ t.parts.length).drewN q)=.ok (.agg #[]) ((boxP w4 ⟨b2,o2,none⟩ t.parts.length).drewN q):=(zero_of_info (P:=Tryz.prog) (n:=0) (by kernel_rfl)).1 _
            have honeP:(#[.pointer (some ⟨b2,o2,none⟩),.int .i64 (t.parts.length:Int)]:Array Value).all (·.oneCell')=true:=by simp[Value.oneCell']
            have hb5:Below (boxP w4 ⟨b2,o2,none⟩ t.parts.length).heap.size (boxP w4 ⟨b2,o2,none⟩ t.parts.length) (((boxP w4 ⟨b2,o2,none⟩ t.parts.length).drewN q).alloc (.cells #[] 100)):=⟨rfl,rfl,rfl,by show (boxP w4 _ _).heap.size≤((boxP w4 _ _).heap.push _).size;simp,fun i hi=>Below.heap_alloc _ _ _ hi⟩
            have HBI5:=Lib.hid (HBI3.out.next hb5)
            have HBx5:=Lib.hid (At.below HBx3.out hb5 HBx3.out.lt)
            have HPx5:=Lib.hid (At.below HPx.out hb5 HPx.out.lt)
            have HSO5:=Lib.hid (HSO3.out.block (w':=((boxP w4 ⟨b2,o2,none⟩ t.parts.length).drewN q).alloc (.cells #[] 100)) (hb5.block b2 (Nat.lt_of_lt_of_le HB2.out HBI3.out.below.size)))
            clear hb5
            cases fb with
            | true =>
              go_wp2_with (first
                | (with_reducible show wpList _ _ _ (⟨none,.store _ _ _,_,_,_,_⟩::_) _ _
                   refine wpList_store_row rfl 97 _ _ rfl w4.heap.size #[.pointer (some ⟨b2,o2,none⟩),.int .i64 (t.parts.length:Int)] rfl rfl 97 #[.pointer none,.int .i64 0] (At.new _ _ _) (by kernel_rfl) rfl honeP ?_
                   change Exit.then _ _ _ _ (boxP w4 ⟨b2,o2,none⟩ t.parts.length))
                | (refine wpList_load_row rfl 97 _ rfl w4.heap.size rfl 97 #[.pointer (some ⟨b2,o2,none⟩),.int .i64 (t.parts.length:Int)] (0,0) _ HPx.out Tryz.underlying97 rfl (by kernel_rfl) ?_)
                | fail)
              exact ⟨⟨j+1,ns,by omega,by go_num,Lib.hid (HBI5.out.more (by rw[HSj.out];omega))⟩,by simp[intOf];omega⟩
            | false =>
              obtain ⟨w6,hup,hm6,hg6⟩:=update_any (((boxP w4 ⟨b2,o2,none⟩ t.parts.length).drewN q).alloc (.cells #[] 100)) w.heap.size ⟨b2,o2,none⟩ t.parts.length HBI5.out.map HSO5.out HB2.out
              unfold placeV unitV at hup
              have HBI6:=Lib.hid (HBI5.out.mapped hg6 hm6)
              have hwr:=HBI.out.size
              have HBx6:=Lib.hid (At.grown' HBx5.out hg6 (fun e=>by injection e with e;omega))
              have c5:=HBx6.out.cell 5
              rw[show t.cs.toArray[5]?=some (.slice t.addr t.n t.cap) from rfl,HIj.out.1.2.1.1,HU.out] at c5
              obtain ⟨w7,hw7⟩:∃w7,w7=w6.alloc (.cells #[.slice (some ⟨b2,o2,none⟩) t.parts.length t.cap] 25):=⟨_,rfl⟩
              have hb7:Below w6.heap.size w6 w7:=by rw[hw7];exact (Below.refl _ _).alloc (Nat.le_refl _) _
              have HBI7:=Lib.hid (HBI6.out.next hb7)
              have HAt7:Hid (At w7 w6.heap.size 25 #[.slice (some ⟨b2,o2,none⟩) t.parts.length t.cap]):=Lib.hid (by rw[hw7];exact At.new _ _ _)
              have HW7:=Lib.hid hw7
              have hnl:ns.length≤4000000:=by
                have h1:=HBI.out.len
                have h2:=HSl.out
                have h3:=HSum.out
                have h4:=HSS.out
                have h3':(List.map (fun p:Value×List Tr=>lmS (k+1) p.2) (List.take (d+1) ps)).sum=S0+lmS (k+1) ms:=h3
                have h5:=sum_take_le (massS (k+1)) ms j
                have h6:lmS (k+1) ms=(ms.map (massS (k+1))).sum:=rfl
                omega
              clear hm6 hg6 hb7 hw7 hwr
              go_wp2_with (first
                | (with_reducible show wpList _ _ _ (⟨none,.store 97 _ _,_,_,_,_⟩::_) _ _
                   refine wpList_store_row rfl 97 _ _ rfl w4.heap.size #[.pointer (some ⟨b2,o2,none⟩),.int .i64 (t.parts.length:Int)] rfl rfl 97 #[.pointer none,.int .i64 0] (At.new _ _ _) (by kernel_rfl) rfl honeP ?_
                   change Exit.then _ _ _ _ (boxP w4 ⟨b2,o2,none⟩ t.parts.length))
                | (refine wpList_load_row rfl 97 _ rfl w4.heap.size rfl 97 #[.pointer (some ⟨b2,o2,none⟩),.int .i64 (t.parts.length:Int)] (0,0) _ HPx.out Tryz.underlying97 rfl (by kernel_rfl) ?_)
                | (refine wpList_load_row rfl 97 _ rfl w4.heap.size rfl 97 #[.pointer (some ⟨b2,o2,none⟩),.int .i64 (t.parts.length:Int)] (0,0) _ HPx5.out Tryz.underlying97 rfl (by kernel_rfl) ?_)
                | (at_builtin
                   rw[←HW7.out]
                   refine wpList_append_lies _ rfl _ _ _ rfl (w.heap.size+1) 25 i0 _ 1 24 Tryz.underlying102 hi0 hz0 hz1 hz2 rfl (by omega) _ ns.length _ rfl HBI7.out.own ⟨w6.heap.size,0,none⟩ 1 1 [.slice (some ⟨b2,o2,none⟩) t.parts.length t.cap] rfl rfl ?c1 ?c2 ?c6 ?c3 ?c4 ?c5 _ rfl ?_
                   case c1=>exact fun i u hu=>by rw[Addr.add_mid,Nat.zero_add];exact (HAt7.out.cell i).trans (by simpa using hu)
                   case c2=>exact fun u hu=>by simp at hu;subst hu;rfl
                   case c6=>omega
                   case c3=>unfold maxLen;omega
                   case c4=>omega
                   case c5=>exact HBI7.out.size
                   intro gb cap w8 hown8 hg8 hat8 hlt8)
                | fail)
              have hlow:∀b,u3.ownBlock=some b→w.heap.size+1≤b:=fun b e=>(HBI7.out.own.lt b e).1
              have hb8:Below (w.heap.size+1) w7 w8:=⟨hg8.os,hg8.tape,hg8.output,hg8.size,fun q hq=>hg8.block q (Nat.lt_of_lt_of_le hq HBI7.out.size) (fun e=>by have:=hlow q e.symm;omega)⟩
              have hsum:=HBI7.out.sum
              have hBI8:BI w k w8 (.slice (some ⟨gb,0,none⟩) (ns.length+1) cap) (ns++[(.slice (some ⟨b2,o2,none⟩) t.parts.length t.cap,t.parts)]) (S0+((ms.take (j+1)).map (massS (k+1))).sum):=by
                refine ⟨by rw[List.map_append,List.length_append];exact hown8,fun p hp=>?_,?_,HBI7.out.map.keep hb8,HBI7.out.below.trans (hb8.mono (Nat.le_succ _)),Nat.le_trans HBI7.out.size hg8.size⟩
                · rcases List.mem_append.1 hp with hp | hp
                  · exact HBI7.out.pls p hp
                  · have:p=(.slice (some ⟨b2,o2,none⟩) t.parts.length t.cap,t.parts):=by simpa using hp
                    subst this
                    have h:=HPL.out
                    rw[HU.out] at h
                    exact h
                · rw[List.map_append,List.sum_append,HSj.out,mass_parts]
                  simp only[List.map_cons,List.map_nil,List.sum_cons,List.sum_nil]
                  omega
              exact ⟨⟨j+1,_,by omega,by go_num,Lib.hid hBI8⟩,by simp[intOf];omega⟩
        · obtain rfl:j=ms.length:=by omega
          go_wp2_with fail
          refine ⟨⟨d+1,ns,by omega,by go_num,Lib.hid (HBI.out.more (by rw[HSum.out,List.take_length];exact Nat.le_refl _))⟩,by simp[intOf];omega⟩
    · obtain rfl:d=ps.length:=by omega
      go_wp2_with fail
      go_ret
      refine ⟨_,ns,rfl,owned_arg HBI.out.own,fun p hp=>(HBI.out.pls p hp).next HBI.out.below,Nat.le_trans HBI.out.sum (by rw[List.take_length];exact Nat.le_refl _),HBI.out.below⟩
end Go.Proofs.YtgmpfnfomgadeaaGreat

/- tree.Deep, weakly: no more than there are levels, and no more than 41. -/
set_option linter.unusedSimpArgs false
set_option linter.unusedVariables false
set_option maxHeartbeats 8000000
set_option maxRecDepth 100000
namespace Go.Proofs.YtgmpfnfomgadeaaGreat
open Go.RowKit
theorem tDeep (k:Nat) (t:Tr) (w:World) (h:Tr.Ins w k t) (hm:massS k t≤4000000) :
    Calls Tryz.prog 49 #[.agg t.cs.toArray] w fun e w'=>∃d:Nat,e=.returned (.int .i64 d)∧1≤d∧d≤41∧d≤k∧Below w.heap.size w w':=by
  obtain ⟨k',rfl⟩:∃k',k=k'+1:=by
    cases k with
    | zero=>exact h.1.elim
    | succ k'=>exact ⟨k',rfl⟩
  obtain ⟨w1,hw1⟩:∃w1,w1=w.alloc (.cells t.cs.toArray 27):=⟨_,rfl⟩
  have hb1:Below w.heap.size w w1:=by rw[hw1];exact (Below.refl _ _).alloc (Nat.le_refl _) _
  have hA1:At w1 w.heap.size 27 t.cs.toArray:=by rw[hw1];exact At.new _ _ _
  have hA1':At (w.alloc (.cells t.cs.toArray 27)) w.heap.size 27 t.cs.toArray:=At.new _ _ _
  obtain ⟨w2,hw2⟩:∃w2,w2=w1.alloc (.cells t.cs.toArray 27):=⟨_,rfl⟩
  have hb2:Below w1.heap.size w1 w2:=by rw[hw2];exact (Below.refl _ _).alloc (Nat.le_refl _) _
  have hA2:At w2 w1.heap.size 27 t.cs.toArray:=by rw[hw2];exact At.new _ _ _
  obtain ⟨w3,hw3⟩:∃w3,w3=w2.alloc (.cells #[.slice (some ⟨w1.heap.size,0,none⟩) 1 1] 25):=⟨_,rfl⟩
  have hb3:Below w2.heap.size w2 w3:=by rw[hw3];exact (Below.refl _ _).alloc (Nat.le_refl _) _
  have hA3:At w3 w2.heap.size 25 #[.slice (some ⟨w1.heap.size,0,none⟩) 1 1]:=by rw[hw3];exact At.new _ _ _
  have hA23:=At.below hA2 hb3 hA2.lt
  have hB:Below w.heap.size w w3:=(hb1.trans (hb2.mono hb1.size)).trans (hb3.mono (Nat.le_trans hb1.size hb2.size))
  have HARG:Hid (ArgAt w3 (.slice (some ⟨w2.heap.size,0,none⟩) 1 1) ([((.slice (some ⟨w1.heap.size,0,none⟩) 1 1:Value),[t])].map (·.1))):=Lib.hid ⟨some ⟨w2.heap.size,0,none⟩,1,rfl,fun _=>⟨w2.heap.size,0,rfl,hA3.lt,fun i u hu=>by rw[Nat.zero_add,hA3.cell];simpa using hu⟩⟩
  have HPL:Hid (∀p∈[((.slice (some ⟨w1.heap.size,0,none⟩) 1 1:Value),[t])],PL w3 (k'+1) p.1 p.2):=Lib.hid (fun p hp=>by
    have:p=((.slice (some ⟨w1.heap.size,0,none⟩) 1 1:Value),[t]):=by simpa using hp
    subst this
    refine ⟨w1.heap.size,0,1,rfl,Nat.one_pos,hA23.lt,hA23.free 0,fun j hj i u hu=>?_,fun q hq=>?_⟩
    · have hj':j<1:=hj
      obtain rfl:j=0:=by omega
      show World.cell? _ ⟨w1.heap.size,0+0*9+i,none⟩=some u
      rw[show 0+0*9+i=i by omega,hA23.cell]
      simpa using hu
    · have:q=t:=by simpa using hq
      rw[this];exact h.next hB)
  have HSUM:Hid (([((.slice (some ⟨w1.heap.size,0,none⟩) 1 1:Value),[t])].map (fun p=>lmS (k'+1) p.2)).sum≤4000000):=Lib.hid (by simpa [lmS] using hm)
  have HB:=Lib.hid hB
  have HW1:=Lib.hid hw1
  have HW2:=Lib.hid hw2
  have HW3:=Lib.hid hw3
  clear hb1 hb2 hb3 hA2 hA3 hA23 hB hw1 hw2 hw3 h hm
  go_enter Tryz.func49,Tryz.ntmps49
  go_wp2_with (first
    | (refine wpList_load_row rfl 27 _ rfl w.heap.size rfl 27 t.cs.toArray (0,0) _ hA1' Tryz.underlying27 rfl (by kernel_rfl) ?_)
    | (with_reducible show wpList _ _ _ (⟨_,.buildSlice 25 _ _,_,_,_,_⟩::_) _ _
       rw[←HW1.out]
       refine wpList_slice_tr rfl _ t rfl rfl ?_
       rw[←HW2.out])
    | fail)
  rw[←HW3.out]
  refine (tBelow k' _ _ w3 HARG.out HPL.out HSUM.out).mono ?_
  rintro e w4 ⟨v,ps,rfl,hv,hp,hs,hb⟩
  have HV:=Lib.hid hv
  have HP:=Lib.hid hp
  have HS:=Lib.hid (Nat.le_trans hs HSUM.out)
  have HB4:=Lib.hid (HB.out.trans (hb.mono HB.out.size))
  clear hv hp hs hb hA1 hA1'
  go_wp2_with fail
  go_loopw [3,4] (fun v l wr=>∃(d:Nat) (ps:List (Value×List Tr)),l=.int .i64 d∧(1≤d∧d≤41∧d≤k'+1)∧Hid (ArgAt wr v (ps.map (·.1)))∧Hid (∀p∈ps,PL wr (k'+1-d) p.1 p.2)∧Hid ((ps.map (fun p=>lmS (k'+1-d) p.2)).sum≤4000000)∧Hid (Below w.heap.size w wr)) (fun _ l _=>41-(intOf l).toNat)
  case atStart=>exact ⟨1,ps,rfl,⟨Nat.le_refl _,by omega,by omega⟩,HV,by rw[Nat.add_sub_cancel];exact HP,by rw[Nat.add_sub_cancel];exact HS,HB4⟩
  case round =>
    clear HV HP HS HB4 HARG HPL HSUM HB HW1 HW2 HW3
    obtain ⟨d,ps,rfl,hd,HV,HP,HS,HB⟩:=hrel
    obtain ⟨A,cap,hv,_⟩:=id HV.out
    rw[List.length_map] at hv
    subst hv
    by_cases hd40:d≤40
    · have hdd:(d:Int)≤40:=by omega
      by_cases h0:ps.length=0
      · rw[h0]
        clear h0
        go_wp2_with fail
        go_ret
        exact ⟨d,rfl,hd.1,hd.2.1,hd.2.2,HB.out⟩
      · have h0':(0:Int)<(ps.length:Int):=by omega
        have hkd:k'+1-d=(k'-d)+1:=by
          obtain ⟨p,hp⟩:∃p,p∈ps:=List.exists_mem_of_length_pos (by omega)
          obtain ⟨_,_,_,_,hm,_,_,_,hin⟩:=HP.out p hp
          obtain ⟨q,hq⟩:∃q,q∈p.2:=List.exists_mem_of_length_pos hm
          have:=(hin q hq).1
          rcases Nat.lt_or_ge d (k'+1) with x | x
          · omega
          · rw[show k'+1-d=0 by omega] at this;exact this.elim
        have HKD:=Lib.hid hkd
        have HP':Hid (∀p∈ps,PL wr ((k'-d)+1) p.1 p.2):=by rw[←hkd];exact HP
        have HS':Hid ((ps.map (fun p=>lmS ((k'-d)+1) p.2)).sum≤4000000):=by rw[←hkd];exact HS
        clear hkd h0
        go_wp2_with fail
        refine (tBelow (k'-d) _ ps wr HV.out HP'.out HS'.out).mono ?_
        rintro e w4 ⟨v,ps2,rfl,hv,hp,hs,hb⟩
        have HV4:=Lib.hid hv
        have HP4:=Lib.hid hp
        have HS4:=Lib.hid (Nat.le_trans hs HS'.out)
        have HB4:=Lib.hid (HB.out.trans (hb.mono HB.out.size))
        clear hv hp hs hb
        go_wp2_with fail
        have hk2:k'+1-(d+1)=k'-d:=by omega
        exact ⟨⟨d+1,ps2,by go_num,⟨by omega,by omega,by have:=HKD.out;omega⟩,HV4,by rw[hk2];exact HP4,by rw[hk2];exact HS4,HB4⟩,by simp[intOf];omega⟩
    · have hdd:¬(d:Int)≤40:=by omega
      obtain rfl:d=41:=by omega
      go_wp2_with fail
      go_ret
      exact ⟨41,rfl,hd.1,hd.2.1,hd.2.2,HB.out⟩
end Go.Proofs.YtgmpfnfomgadeaaGreat
