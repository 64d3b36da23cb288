/- Joined: PairsBelow, Sbp. -/
import Derived.Test.YtgmpfnfomgadeaaGreatMai
import Derived.Test.YtgmpfnfomgadeaaGreatMao
import Derived.Deep.QuietTactic
import Derived.Test.YtgmpfnfomgadeaaGreatMah
import Derived.Test.YtgmpfnfomgadeaaGreatMaj
/- tree.pairsBelow: the pairs one level below, each as it stands, where the first lists lie in blocks of their own. -/
set_option linter.unusedSimpArgs false
set_option linter.unusedVariables false
set_option maxHeartbeats 8000000
set_option maxRecDepth 100000
namespace Go.Proofs.YtgmpfnfomgadeaaGreat
open Go.RowKit
structure Pr where
  u:Value
  ms:List Tr
  v:Value
  ns:List Tr
def nextE (a b:Tr):List Pr:=if a.parts.length=0 then [] else [⟨.slice a.addr a.parts.length a.cap,a.parts,.slice b.addr b.parts.length b.cap,b.parts⟩]
def nextL (ms ns:List Tr):List Pr:=(ms.zip ns).flatMap (fun x=>nextE x.1 x.2)
def nextP (ps:List Pr):List Pr:=ps.flatMap (fun p=>nextL p.ms p.ns)
def prL (ps:List Pr):List Value:=ps.flatMap (fun p=>[p.u,p.v])
theorem prL_at:∀(ps:List Pr) (j:Nat) (h:j<ps.length),(prL ps)[j*2]?=some ps[j].u∧(prL ps)[j*2+1]?=some ps[j].v
  | p::ps,0,_=>⟨rfl,rfl⟩
  | p::ps,j+1,h=>by
    have:=prL_at ps j (by simpa using h)
    have e:prL (p::ps)=p.u::p.v::prL ps:=rfl
    rw[e,show (j+1)*2=j*2+2 by omega]
    exact this
structure PrOk (w:World) (k:Nat) (p:Pr):Prop where
  a:PL w k p.u p.ms
  b:PL w k p.v p.ns
  len:p.ms.length=p.ns.length
  each:∀j (h1:j<p.ms.length) (h2:j<p.ns.length),p.ms[j].parts.length=p.ns[j].parts.length
theorem PrOk.next {w w':World} {k:Nat} {p:Pr} (h:PrOk w k p) (hb:Below w.heap.size w w'):PrOk w' k p:=⟨h.a.next hb,h.b.next hb,h.len,h.each⟩
def ArgP (w:World) (v:Value) (ps:List Pr):Prop:=∃A cap,v=.slice A ps.length cap∧(0<ps.length→∃b off,A=some ⟨b,off,none⟩∧b<w.heap.size∧∀j (h:j<ps.length),w.rangeAt b (off+j*2) [ps[j].u,ps[j].v])
theorem ArgP.next {w w':World} {v:Value} {ps:List Pr} (h:ArgP w v ps) (hb:Below w.heap.size w w'):ArgP w' v ps:=by
  obtain ⟨A,cap,h1,h2⟩:=h
  refine ⟨A,cap,h1,fun h0=>?_⟩
  obtain ⟨b,off,e,hlt,hr⟩:=h2 h0
  exact ⟨b,off,e,Nat.lt_of_lt_of_le hlt hb.size,fun j hj=>range_below (hr j hj) hlt (Nat.le_refl _) hb⟩
theorem owned_prs {w:World} {base:Nat} {v:Value} {ps:List Pr} (h:w.ownsRow base 80 2 v ps.length (prL ps)):ArgP w v ps:=by
  obtain ⟨hl,h | ⟨g,cap,cur,e1,hb,hh,h1,h2,h3,h4⟩⟩:=h
  · exact ⟨none,0,by rw[h.1,h.2],fun q=>by have:=h.2;omega⟩
  · refine ⟨some ⟨g,0,none⟩,cap,e1,fun h0=>⟨g,0,rfl,?_,fun j hj i u hu=>?_⟩⟩
    · rcases Nat.lt_or_ge g w.heap.size with q | q
      · exact q
      · rw[Array.getElem?_eq_none q] at hh;cases hh
    · have hA:At w g 80 cur:=hh
      have hi:i<2:=(List.getElem?_eq_some_iff.1 hu).1
      rw[Nat.zero_add,hA.cell]
      have hx:(prL ps)[j*2+i]?=some u:=by
        have hp:=prL_at ps j hj
        match i,hi with
        | 0,_=>rw[Nat.add_zero,hp.1];simpa using hu
        | 1,_=>rw[hp.2];simpa using hu
      have hlt:j*2+i<ps.length*2:=by omega
      rw[←h4,List.getElem?_take_of_lt (by omega)] at hx
      simpa using hx
def boxK (w:World) (a:Nat) (n:Int) (b:Addr) (m:Int):World:=(w.alloc (.cells #[.pointer none,.int .i64 0,.pointer none,.int .i64 0] 99)).setRow w.heap.size #[.pointer (some ⟨a,0,none⟩),.int .i64 n,.pointer (some b),.int .i64 m]
theorem boxK_at (w:World) (a:Nat) (n:Int) (b:Addr) (m:Int):At (boxK w a n b m) w.heap.size 99 #[.pointer (some ⟨a,0,none⟩),.int .i64 n,.pointer (some b),.int .i64 m]:=At.row (At.new w 99 #[.pointer none,.int .i64 0,.pointer none,.int .i64 0]) _
theorem boxK_next (w:World) (a:Nat) (n:Int) (b:Addr) (m:Int):Below w.heap.size w (boxK w a n b m):=((Below.refl _ _).alloc (Nat.le_refl _) _).trans ((Only.row _ _ _).below (Nat.le_refl _))
theorem info_pr:(Tryz.prog.info? 80).map (fun i=>(i.zero,i.size,i.bytes))=some (some (.agg #[.slice none 0 0,.slice none 0 0]),2,48):=by kernel_rfl
structure BP (w:World) (wr:World) (nx:Value) (ns:List Pr) (gs:List Nat) (c S:Nat):Prop where
  own:wr.ownsRow (w.heap.size+1) 80 2 nx ns.length (prL ns)
  map:PairsAt wr w.heap.size gs
  low:∀a∈gs,a<c
  below:Below w.heap.size w wr
  size:w.heap.size+1≤wr.heap.size
  few:ns.length≤S
theorem BP.next {w wr wr':World} {nx:Value} {ns:List Pr} {gs:List Nat} {c S:Nat} (h:BP w wr nx ns gs c S) (hb:Below wr.heap.size wr wr'):BP w wr' nx ns gs c S:=by
  refine ⟨?_,h.map.next hb,h.low,h.below.trans (hb.mono h.below.size),Nat.le_trans h.size hb.size,h.few⟩
  obtain ⟨h1,h2⟩:=h.own
  refine ⟨h1,?_⟩
  rcases h2 with h2 | ⟨b,cap,cur,hv,hbb,hh,r⟩
  · exact Or.inl h2
  · refine Or.inr ⟨b,cap,cur,hv,hbb,?_,r⟩
    have hlt:b<wr.heap.size:=by
      rcases Nat.lt_or_ge b wr.heap.size with q | q
      · exact q
      · rw[Array.getElem?_eq_none q] at hh;cases hh
    rw[hb.block b hlt];exact hh
theorem BP.more {w wr:World} {nx:Value} {ns:List Pr} {gs:List Nat} {c c' S S':Nat} (h:BP w wr nx ns gs c S) (hc:c≤c') (hS:S≤S'):BP w wr nx ns gs c' S':=⟨h.own,h.map,fun a ha=>Nat.lt_of_lt_of_le (h.low a ha) hc,h.below,h.size,Nat.le_trans h.few hS⟩
theorem BP.mapped {w wr wr':World} {nx:Value} {ns:List Pr} {gs:List Nat} {c c' S x:Nat} (h:BP w wr nx ns gs c S) (hg:wr.grownBy wr' (some w.heap.size)) (hm:PairsAt wr' w.heap.size (x::gs)) (hc:c≤c') (hx:x<c'):BP w wr' nx ns (x::gs) c' S :=
  ⟨ownsRow_grown h.own hg (Nat.lt_succ_self _),hm,fun a ha=>by
    rcases List.mem_cons.1 ha with rfl | ha
    · exact hx
    · exact Nat.lt_of_lt_of_le (h.low a ha) hc,h.below.trans (grownBy_lo hg h.below.size),Nat.le_trans h.size hg.size,h.few⟩
theorem nextL_take {ms ns:List Tr} {j:Nat} (h1:j<ms.length) (h2:j<ns.length):((ms.zip ns).take (j+1)).flatMap (fun x=>nextE x.1 x.2)=((ms.zip ns).take j).flatMap (fun x=>nextE x.1 x.2)++nextE ms[j] ns[j]:=by
  rw[List.take_succ_eq_append_getElem (by simp;omega),List.flatMap_append]
  simp
theorem nextP_take {ps:List Pr} {d:Nat} (h:d<ps.length):nextP (ps.take (d+1))=nextP (ps.take d)++nextL ps[d].ms ps[d].ns:=by
  unfold nextP
  rw[List.take_succ_eq_append_getElem h,List.flatMap_append]
  simp
theorem PL.cell5 {w:World} {k b off cap:Nat} {ms:List Tr} {u:Value} (h:PL w (k+1) u ms) (e:u=.slice (some ⟨b,off,none⟩) ms.length cap) {j:Nat} (hj:j<ms.length):w.cell? ⟨b,off+j*9+5,none⟩=some (.slice ms[j].addr ms[j].parts.length ms[j].cap):=by
  obtain ⟨b',o',c',e',h0,hb,hf,hr,hi⟩:=h
  rw[e] at e'
  injection e' with e1 _ e3
  injection e1 with e1
  injection e1 with e1 e2
  subst e1 e2
  have:=hr j hj 5 (.slice ms[j].addr ms[j].n ms[j].cap) rfl
  rw[←(hi _ (List.getElem_mem hj)).1.2.1.1]
  exact this
theorem below_drewR {w w':World} {N:Nat} (h:Below (w.drewN N).heap.size (w.drewN N) w'):Below w.heap.size w w':=⟨h.os,h.tape,h.output,h.size,h.block⟩
theorem OwnW.list {w:World} {k lo hi:Nat} {t:Tr} (h:OwnW w (k+1) lo hi t) (hn:t.n=t.parts.length) (h0:0<t.parts.length):∃g m,t.addr=some ⟨g,0,none⟩∧lo≤g∧g<m∧m≤hi∧Clean w g:=by
  obtain ⟨m,h1,h2,h3⟩:=h
  obtain ⟨g,cs,e,a,b,c⟩:=h2 (by omega)
  exact ⟨g,m,e,a,b,OwnL.le (fun _ _ _ q=>q.le) h3,_,cs,c⟩
theorem tPairsBelow (k lo hi:Nat) (v:Value) (ps:List Pr) (w:World) (hv:ArgP w v ps) (hp:∀p∈ps,PrOk w (k+1) p) (how:OwnL (fun lo hi t=>OwnW w (k+1) lo hi t) hi lo (ps.flatMap (·.ms))) (hM:(ps.map (fun p=>p.ms.length)).sum≤4000000) (hpl:ps.length≤4000000) :
    Calls Tryz.prog 46 #[v] w fun e w'=>∃v':Value,e=.returned v'∧ArgP w' v' (nextP ps)∧Below w.heap.size w w':=by
  obtain ⟨A,cap,rfl,hr⟩:=hv
  have HR:=Lib.hid hr
  have HPS:=Lib.hid hp
  have HM:=Lib.hid hM
  have hmk:=make_mapP w
  obtain ⟨i0,hi0,hz0,hz1,hz2⟩:=info_parts info_pr
  have hz1':i0.size=2:=hz1
  have HBI:=Lib.hid (show BP w (w.alloc (.map #[] 0)) (.slice none 0 0) (nextP (ps.take 0)) [] lo ((ps.take 0).map (fun p=>p.ms.length)).sum from ⟨⟨rfl,Or.inl ⟨rfl,rfl⟩⟩,pairs_new w,fun a ha=>absurd ha List.not_mem_nil,(Below.refl _ _).alloc (Nat.le_refl _) _,(by simp),Nat.zero_le _⟩)
  have HOw:Hid (OwnL (fun lo hi t=>OwnW w (k+1) lo hi t) hi lo ((ps.drop 0).flatMap (·.ms))):=Lib.hid (by rw[List.drop_zero];exact how)
  clear hr hp hM how
  go_enter Tryz.func46,Tryz.ntmps46
  go_wp2_with fail
  clear hmk
  generalize w.alloc (.map #[] 0)=w1 at HBI ⊢
  go_loopw [3,16] (fun nx i wr=>∃(d c:Nat) (gs:List Nat),d≤ps.length∧i=.int .i64 d∧Hid (BP w wr nx (nextP (ps.take d)) gs c ((ps.take d).map (fun p=>p.ms.length)).sum)∧Hid (OwnL (fun lo hi t=>OwnW w (k+1) lo hi t) hi c ((ps.drop d).flatMap (·.ms)))) (fun _ i _=>ps.length-(intOf i).toNat)
  case atStart=>exact ⟨0,lo,[],Nat.zero_le _,rfl,HBI,HOw⟩
  case round =>
    clear HBI HOw
    obtain ⟨d,c,gs,hd,rfl,HBI,HOw⟩:=hrel
    by_cases hlt:d<ps.length
    · obtain ⟨b,off,rfl,hb,hr⟩:=HR.out (by omega)
      have hpd:=HPS.out _ (List.getElem_mem hlt)
      have HRd:=Lib.hid (range_below (hr d hlt) hb (Nat.le_refl _) HBI.out.below)
      have hdz:(0:Int)≤(d:Int):=by omega
      have hdn:(d:Int)<(ps.length:Int):=by omega
      have HSum:=Lib.hid (sum_take_succ (fun p:Pr=>p.ms.length) ps d hlt)
      have HSS:Hid (((ps.take (d+1)).map (fun p=>p.ms.length)).sum≤4000000):=Lib.hid (Nat.le_trans (sum_take_le _ _ _) HM.out)
      have HNx:=Lib.hid (nextP_take hlt)
      have hdr:=List.drop_eq_getElem_cons hlt
      have HO2:Hid (OwnL (fun lo hi t=>OwnW w (k+1) lo hi t) hi c (ps[d].ms++(ps.drop (d+1)).flatMap (·.ms))):=Lib.hid (by have h:=HOw.out;rw[hdr,List.flatMap_cons] at h;exact h)
      clear HOw hdr
      generalize hpp:ps[d]=pd at hpd HRd HSum HNx HO2
      obtain ⟨u,ms,v,ns⟩:=pd
      have hpa:PL w (k+1) u ms:=hpd.a
      have hpb:PL w (k+1) v ns:=hpd.b
      have hlen:ms.length=ns.length:=hpd.len
      have HEach:Hid (∀j (h1:j<ms.length) (h2:j<ns.length),ms[j].parts.length=ns[j].parts.length):=Lib.hid hpd.each
      obtain ⟨b1,o1,c1,hu,hm0,hb1,_,_,hin1⟩:=id hpa
      obtain ⟨b2,o2,c2,hv2,_,hb2,_,_,hin2⟩:=id hpb
      have HPA:=Lib.hid hpa
      have HPB:=Lib.hid hpb
      subst hu
      subst hv2
      have HB1:=Lib.hid hb1
      have HB2:=Lib.hid hb2
      have HI1:=Lib.hid hin1
      have HI2:=Lib.hid hin2
      have HLen:=Lib.hid hlen
      have hml:ms.length≤4000000:=by
        have h2:=HSum.out
        have h3:=HSS.out
        dsimp only at h2
        omega
      have hone2:(#[.slice (some ⟨b1,o1,none⟩) ms.length c1,.slice (some ⟨b2,o2,none⟩) ns.length c2]:Array Value).all (·.oneCell')=true:=by simp[Value.oneCell']
      have hbx:Below wr.heap.size wr (wr.alloc (.cells #[.slice (some ⟨b1,o1,none⟩) ms.length c1,.slice (some ⟨b2,o2,none⟩) ns.length c2] 80)):=(Below.refl _ _).alloc (Nat.le_refl _) _
      have HBx:Hid (At (wr.alloc (.cells #[.slice (some ⟨b1,o1,none⟩) ms.length c1,.slice (some ⟨b2,o2,none⟩) ns.length c2] 80)) wr.heap.size 80 #[.slice (some ⟨b1,o1,none⟩) ms.length c1,.slice (some ⟨b2,o2,none⟩) ns.length c2]):=Lib.hid (At.new _ _ _)
      have HBI2:=Lib.hid (HBI.out.next hbx)
      have x0:=HBx.out.cell 0
      have HNe:Hid (u3.ownBlock≠some wr.heap.size):=Lib.hid (fun e=>by have:=(HBI.out.own.lt _ e).2;omega)
      have hg0:Hid (w.heap.size<wr.heap.size):=Lib.hid (by have:=HBI.out.size;omega)
      clear hb hr hpp hpd hm0 hb1 hb2 hin1 hin2 hpa hpb hbx hlen
      generalize ((ps.take d).map (fun p=>p.ms.length)).sum=S0 at HBI2 HSum
      generalize nextP (ps.take d)=N0 at HBI2 HNx
      go_wp2_with (first
        | (with_reducible show wpList _ _ _ (⟨some _,.load 80 _,_,_,_,_⟩::_) _ _
           refine wpList_load_mid rfl 80 _ rfl b (off+d*2) rfl [.slice (some ⟨b1,o1,none⟩) ms.length c1,.slice (some ⟨b2,o2,none⟩) ns.length c2] _ HRd.out Tryz.underlying80 rfl (by kernel_rfl) ?_)
        | fail)
      clear x0
      obtain ⟨wo,hwo⟩:∃wo,wo=wr:=⟨_,rfl⟩
      rw[←hwo] at HBI HBI2 HBx hg0 HNe ⊢
      clear hwo
      go_loopw [3,23] (fun nx i wr=>∃(j c:Nat) (gs:List Nat),j≤ms.length∧i=.int .i64 j∧Hid (BP w wr nx (N0++((ms.zip ns).take j).flatMap (fun x=>nextE x.1 x.2)) gs c (S0+j))∧Hid (At wr wo.heap.size 80 #[.slice (some ⟨b1,o1,none⟩) ms.length c1,.slice (some ⟨b2,o2,none⟩) ns.length c2])∧Hid (OwnL (fun lo hi t=>OwnW w (k+1) lo hi t) hi c (ms.drop j++(ps.drop (d+1)).flatMap (·.ms)))∧Hid (nx.ownBlock≠some wo.heap.size)) (fun _ i _=>ms.length-(intOf i).toNat)
      case atStart=>exact ⟨0,c,gs,Nat.zero_le _,rfl,Lib.hid (by rw[List.take_zero,List.flatMap_nil,List.append_nil];exact HBI2.out),HBx,Lib.hid (by rw[List.drop_zero];exact HO2.out),HNe⟩
      case round =>
        clear HBI HBI2 HBx HO2 HNe
        obtain ⟨j,c,gs,hj,rfl,HBI,HBx,HOw,HNe⟩:=hrel
        by_cases hjlt:j<ms.length
        · have hjn2:j<ns.length:=by have:=HLen.out;omega
          have hjz:(0:Int)≤(j:Int):=by omega
          have hjn:(j:Int)<(ms.length:Int):=by omega
          have hjm:(j:Int)<(ns.length:Int):=by have:=HLen.out;omega
          have x0:=HBx.out.cell 0
          have x1:=HBx.out.cell 1
          have y0:wr.cell? ⟨b1,o1+j*9+5,none⟩=some (.slice ms[j].addr ms[j].parts.length ms[j].cap):=((HPA.out.next HBI.out.below).cell5 rfl hjlt)
          have y1:wr.cell? ⟨b2,o2+j*9+5,none⟩=some (.slice ns[j].addr ns[j].parts.length ns[j].cap):=((HPB.out.next HBI.out.below).cell5 rfl hjn2)
          have hdr:=List.drop_eq_getElem_cons hjlt
          obtain ⟨c',hc1,hc2⟩:∃c',OwnW w (k+1) c c' ms[j]∧OwnL (fun lo hi t=>OwnW w (k+1) lo hi t) hi c' (ms.drop (j+1)++(ps.drop (d+1)).flatMap (·.ms)):=by
            have h:=HOw.out
            rw[hdr] at h
            exact h
          have hni:=(HI1.out _ (List.getElem_mem hjlt)).1.2.1.1
          have hpa:0<ms[j].parts.length→PL w k (.slice ms[j].addr ms[j].parts.length ms[j].cap) ms[j].parts:=fun h0=>part_pl (HI1.out _ (List.getElem_mem hjlt)) h0
          have hpb:0<ns[j].parts.length→PL w k (.slice ns[j].addr ns[j].parts.length ns[j].cap) ns[j].parts:=fun h0=>part_pl (HI2.out _ (List.getElem_mem hjn2)) h0
          have heq:=HEach.out j hjlt hjn2
          have HTk:=Lib.hid (nextL_take hjlt hjn2)
          generalize ms[j]=s at y0 hc1 hni hpa heq HTk
          generalize ns[j]=t at y1 hpb heq HTk
          have HC1:=Lib.hid hc1
          have HC2:=Lib.hid hc2
          clear HOw hc1 hc2 hdr
          by_cases h0:s.parts.length=0
          · rw[h0] at y0
            have ht0:t.parts.length=0:=by omega
            rw[ht0] at y1
            clear hpa hpb heq
            go_wp2_with fail
            go_quiet (fail)
            go_wp2_with fail
            refine ⟨⟨j+1,c',gs,by omega,by go_num,Lib.hid ?_,HBx,HC2,HNe⟩,by simp[intOf];omega⟩
            rw[HTk.out,nextE,if_pos h0,List.append_nil]
            exact (HBI.out.more HC1.out.le (by omega)).next (below_drewR (N:=_) (Below.refl _ _))
          · have hpl2:=hpa (by omega)
            have hpm2:=hpb (by omega)
            obtain ⟨gq,mq,hga,hgl,hgm,hgh,hcl⟩:=HC1.out.list hni (by omega)
            obtain ⟨bt,ot,ct,hu,_,hbt,_,_,_⟩:=id hpm2
            have htad:t.addr=some ⟨bt,ot,none⟩:=by injection hu
            rw[hga] at y0
            rw[htad] at y1
            have hp0:0<s.parts.length:=by omega
            have hq0:0<t.parts.length:=by omega
            have hne1:¬(s.parts.length:Int)=0:=by omega
            have hne:=(int_ne hne1).1
            have HGA:=Lib.hid hga
            have HTA:=Lib.hid htad
            have HGL:=Lib.hid hgl
            have HGM:=Lib.hid hgm
            have HGH:=Lib.hid hgh
            have HCL:=Lib.hid hcl
            have HEq:=Lib.hid heq
            clear hpl2 hpm2 hga hgl hgm hgh hcl hbt hu htad hne1 h0 hpa hpb heq
            go_wp2_with fail
            go_quiet (fail)
            go_wp2_with fail
            refine (tPlaceOf gq 0 s.parts.length s.cap hp0 _).mono ?_
            rintro e w4 ⟨rfl,hb4⟩
            have HB4:=Lib.hid (below_drewR hb4)
            clear hb4 x0 x1 y0 y1
            go_wp2_with fail
            refine (tPlaceOf bt ot t.parts.length t.cap hq0 _).mono ?_
            rintro e w5 ⟨rfl,hb5⟩
            have HB5:=Lib.hid (HB4.out.trans (hb5.mono HB4.out.size))
            have HBI5:=Lib.hid (HBI.out.next HB5.out)
            have HBx5:=Lib.hid (At.below HBx.out HB5.out HBx.out.lt)
            clear hb5
            have hkx:=boxK_next w5 gq s.parts.length ⟨bt,ot,none⟩ t.parts.length
            have HKx:=Lib.hid (boxK_at w5 gq s.parts.length ⟨bt,ot,none⟩ t.parts.length)
            have HBI6:=Lib.hid (HBI5.out.next hkx)
            have HBx6:=Lib.hid (At.below HBx5.out hkx HBx5.out.lt)
            clear hkx
            have hCL6:Clean (boxK w5 gq s.parts.length ⟨bt,ot,none⟩ t.parts.length) gq:=HCL.out.block (HBI6.out.below.block gq HCL.out.lt)
            have hnm:gq ∉ gs:=fun z=>by have:=HBI6.out.low gq z;have:=HGL.out;omega
            have hlk:=lookup_no (boxK w5 gq s.parts.length ⟨bt,ot,none⟩ t.parts.length) w.heap.size gq s.parts.length ⟨bt,ot,none⟩ t.parts.length gs HBI6.out.map hCL6 hnm
            unfold pairV unitV at hlk
            have hoK:(#[.pointer (some ⟨gq,0,none⟩),.int .i64 (s.parts.length:Int),.pointer (some ⟨bt,ot,none⟩),.int .i64 (t.parts.length:Int)]:Array Value).all (·.oneCell')=true:=by simp[Value.oneCell']
            have hzs:(zeroValue 100).run Tryz.prog (boxK w5 gq s.parts.length ⟨bt,ot,none⟩ t.parts.length)=.ok (.agg #[]) (boxK w5 gq s.parts.length ⟨bt,ot,none⟩ t.parts.length):=(zero_of_info (P:=Tryz.prog) (n:=0) (by kernel_rfl)).1 _
            have hb7:Below (boxK w5 gq s.parts.length ⟨bt,ot,none⟩ t.parts.length).heap.size (boxK w5 gq s.parts.length ⟨bt,ot,none⟩ t.parts.length) ((boxK w5 gq s.parts.length ⟨bt,ot,none⟩ t.parts.length).alloc (.cells #[] 100)):=(Below.refl _ _).alloc (Nat.le_refl _) _
            have HBI7:=Lib.hid (HBI6.out.next hb7)
            have HBx7:=Lib.hid (At.below HBx6.out hb7 HBx6.out.lt)
            have HKx7:=Lib.hid (At.below HKx.out hb7 HKx.out.lt)
            have hCL7:Clean ((boxK w5 gq s.parts.length ⟨bt,ot,none⟩ t.parts.length).alloc (.cells #[] 100)) gq:=hCL6.block (hb7.block gq hCL6.lt)
            obtain ⟨w8,hup,hm8,hg8⟩:=update_no ((boxK w5 gq s.parts.length ⟨bt,ot,none⟩ t.parts.length).alloc (.cells #[] 100)) w.heap.size gq s.parts.length ⟨bt,ot,none⟩ t.parts.length gs HBI7.out.map hCL7 HCL.out.lt hnm
            unfold pairV unitV at hup
            have HBI8:=Lib.hid (HBI7.out.mapped (c':=c') hg8 hm8 (Nat.le_trans HGL.out (Nat.le_trans (Nat.le_of_lt HGM.out) HGH.out)) (Nat.lt_of_lt_of_le HGM.out HGH.out))
            have hwz:=HBI.out.size
            have HBx8:=Lib.hid (At.grown' HBx7.out hg8 (fun e=>by injection e with e;have:=hg0.out;omega))
            obtain ⟨w9,hw9⟩:∃w9,w9=w8.alloc (.cells #[.slice (some ⟨gq,0,none⟩) s.parts.length s.cap,.slice (some ⟨bt,ot,none⟩) t.parts.length t.cap] 80):=⟨_,rfl⟩
            have hb9:Below w8.heap.size w8 w9:=by rw[hw9];exact (Below.refl _ _).alloc (Nat.le_refl _) _
            have HBI9:=Lib.hid (HBI8.out.next hb9)
            have HBx9:=Lib.hid (At.below HBx8.out hb9 HBx8.out.lt)
            have HAt9:Hid (At w9 w8.heap.size 80 #[.slice (some ⟨gq,0,none⟩) s.parts.length s.cap,.slice (some ⟨bt,ot,none⟩) t.parts.length t.cap]):=Lib.hid (by rw[hw9];exact At.new _ _ _)
            have HW9:=Lib.hid hw9
            have hnl:(N0++((ms.zip ns).take j).flatMap (fun x=>nextE x.1 x.2)).length≤4000000:=by
              have h1:=HBI.out.few
              have h2:=HSum.out
              have h3:=HSS.out
              omega
            clear hm8 hg8 hb7 hb9 hw9 hwz hCL6 hCL7 hnm
            obtain ⟨NN,hNN⟩:∃NN,NN=N0++((ms.zip ns).take j).flatMap (fun x=>nextE x.1 x.2):=⟨_,rfl⟩
            rw[←hNN] at hnl HBI9 HBI8 HBI7 HBI6 HBI5 HBI
            have HNN:=Lib.hid hNN
            clear hNN
            go_wp2_with (first
              | (with_reducible show wpList _ _ _ (⟨none,.store 99 _ _,_,_,_,_⟩::_) _ _
                 refine wpList_store_row rfl 99 _ _ rfl w5.heap.size #[.pointer (some ⟨gq,0,none⟩),.int .i64 (s.parts.length:Int),.pointer (some ⟨bt,ot,none⟩),.int .i64 (t.parts.length:Int)] rfl rfl 99 #[.pointer none,.int .i64 0,.pointer none,.int .i64 0] (At.new _ _ _) (by kernel_rfl) rfl hoK ?_
                 change Exit.then _ _ _ _ (boxK w5 gq s.parts.length ⟨bt,ot,none⟩ t.parts.length))
              | (with_reducible show wpList _ _ _ (⟨some _,.load 99 _,_,_,_,_⟩::_) _ _
                 refine wpList_load_row rfl 99 _ rfl w5.heap.size rfl 99 #[.pointer (some ⟨gq,0,none⟩),.int .i64 (s.parts.length:Int),.pointer (some ⟨bt,ot,none⟩),.int .i64 (t.parts.length:Int)] (0,0) _ (by first | exact HKx.out | exact HKx7.out) Tryz.underlying99 rfl (by kernel_rfl) ?_)
              | (at_builtin
                 rw[←HW9.out]
                 refine wpList_append_lies _ rfl _ _ _ rfl (w.heap.size+1) 80 i0 _ 2 48 Tryz.underlying81 hi0 hz0 hz1 hz2 rfl (by omega) _ NN.length _ rfl HBI9.out.own ⟨w8.heap.size,0,none⟩ 1 1 [.slice (some ⟨gq,0,none⟩) s.parts.length s.cap,.slice (some ⟨bt,ot,none⟩) t.parts.length t.cap] rfl rfl ?c1 ?c2 ?c6 ?c3 ?c4 ?c5 _ rfl ?_
                 case c1=>exact fun i u hu=>by rw[Addr.add_mid,Nat.zero_add];exact (HAt9.out.cell i).trans (by simpa using hu)
                 case c2=>exact fun u hu=>by simp at hu;rcases hu with rfl | rfl<;>rfl
                 case c6=>omega
                 case c3=>unfold maxLen;omega
                 case c4=>omega
                 case c5=>exact HBI9.out.size
                 intro gb cap w10 hown10 hg10 hat10 hlt10)
              | fail)
            have hlow:∀b,u3.ownBlock=some b→w.heap.size+1≤b:=fun b e=>(HBI9.out.own.lt b e).1
            have hb10:Below (w.heap.size+1) w9 w10:=⟨hg10.os,hg10.tape,hg10.output,hg10.size,fun q hq=>hg10.block q (Nat.lt_of_lt_of_le hq HBI9.out.size) (fun e=>by have:=hlow q e.symm;omega)⟩
            have hBI10:BP w w10 (.slice (some ⟨gb,0,none⟩) (NN.length+1) cap) (NN++nextE s t) (gq::gs) c' (S0+(j+1)):=by
              rw[show nextE s t=[⟨.slice (some ⟨gq,0,none⟩) s.parts.length s.cap,s.parts,.slice (some ⟨bt,ot,none⟩) t.parts.length t.cap,t.parts⟩] by unfold nextE;rw[if_neg (by omega),HGA.out,HTA.out]]
              refine ⟨?_,HBI9.out.map.keep hb10,HBI9.out.low,HBI9.out.below.trans (hb10.mono (Nat.le_succ _)),Nat.le_trans HBI9.out.size hg10.size,by rw[List.length_append];have:=HBI9.out.few;simp;omega⟩
              rw[List.length_append]
              unfold prL at hown10 ⊢
              rw[List.flatMap_append]
              exact hown10
            refine ⟨⟨j+1,c',gq::gs,by omega,by go_num,Lib.hid ?_,Lib.hid (At.grown' HBx9.out hg10 (fun e=>HNe.out e.symm)),HC2,Lib.hid (fun e=>by
              have e:gb=wo.heap.size:=by injection e
              rcases hat10 with q | q
              · exact HNe.out (q.trans (congrArg some e))
              · have:=HBx9.out.lt;omega)⟩,by simp[intOf];omega⟩
            rw[HTk.out,←List.append_assoc,←HNN.out]
            exact hBI10
        · obtain rfl:j=ms.length:=by omega
          go_wp2_with fail
          refine ⟨⟨d+1,c,gs,by omega,by go_num,Lib.hid ?_,Lib.hid ?_⟩,by simp[intOf];omega⟩
          · rw[HSum.out,HNx.out]
            have h:=HBI.out
            rw[List.take_of_length_le (by rw[List.length_zip];have:=HLen.out;omega)] at h
            exact h
          · have h:=HOw.out
            rw[List.drop_length,List.nil_append] at h
            exact h
    · obtain rfl:d=ps.length:=by omega
      go_wp2_with fail
      go_ret
      refine ⟨_,rfl,owned_prs (by have:=HBI.out.own;rw[List.take_length] at this;exact this),HBI.out.below⟩
end Go.Proofs.YtgmpfnfomgadeaaGreat

/- tree.sameBesideParts; slices.EqualFunc at it. -/
set_option linter.unusedSimpArgs false
set_option linter.unusedVariables false
set_option maxHeartbeats 8000000
set_option maxRecDepth 100000
namespace Go.Proofs.YtgmpfnfomgadeaaGreat
open Go.RowKit
theorem tSbp (a b:Tr) (hna:a.n=a.parts.length) (hnb:b.n=b.parts.length) (hla:a.parts.length≤9223372036854775807) (hlb:b.parts.length≤9223372036854775807) (w:World) :
    Calls Tryz.prog 45 #[.agg a.cs.toArray,.agg b.cs.toArray] w fun e w'=>e=.returned (.bool (ownSame a b))∧Below w.heap.size w w':=by
  have HA0:=Lib.hid ((At.new w 27 a.cs.toArray).alloc (Obj.cells b.cs.toArray 27))
  have HB0:=Lib.hid (at_new' (w.alloc (Obj.cells a.cs.toArray 27)) (w.heap.size+1) 27 (cs:=b.cs.toArray) (by simp))
  obtain ⟨a0,a5,a6,a7,a8⟩:=At.tr_cell HA0.out
  obtain ⟨b0,b5,b6,b7,b8⟩:=At.tr_cell HB0.out
  obtain ⟨s1,s2,s3,s4⟩:=At.tr_set HA0.out
  obtain ⟨r1,r2,r3,r4⟩:=At.tr_set HB0.out
  rw[hna] at a5
  rw[hnb] at b5
  clear hna hnb
  go_enter Tryz.func45,Tryz.ntmps45
  by_cases h0:a.kind=b.kind
  · have d0:=(int_eq h0).1
    by_cases h1:a.set.eqb b.set=true
    · have d1:=fun W=>setEq W a.set b.set true h1
      by_cases h2:a.lo=b.lo
      · have d2:=(int_eq h2).1
        by_cases h3:a.hi=b.hi
        · have d3:=(int_eq h3).1
          by_cases h4:a.neg=b.neg
          · have d4:=(bool_eq h4).1
            by_cases h5:a.parts.length=b.parts.length
            · have d5:=(int_eq (show (a.parts.length:Int)=(b.parts.length:Int) by omega)).1
              have HO:=Lib.hid (own_yes h0 h1 h2 h3 h4 h5)
              clear h0 h1 h2 h3 h4 h5
              go_wp2_with fail
              go_ret
              exact ⟨ret_bool HO.out.symm,below_two _ _⟩
            · have d5:=(int_ne (show ¬(a.parts.length:Int)=(b.parts.length:Int) by omega)).1
              have HF:=Lib.hid (own_len h5)
              clear h0 h1 h2 h3 h4 h5
              go_wp2_with fail
              go_ret
              exact ⟨ret_bool HF.out.symm,below_two _ _⟩
          · have d4:=(bool_ne h4).1
            have HF:=Lib.hid (own_neg h4)
            clear h0 h1 h2 h3 h4
            go_wp2_with fail
            go_ret
            exact ⟨ret_bool HF.out.symm,below_two _ _⟩
        · have d3:=(int_ne h3).1
          have HF:=Lib.hid (own_hi h3)
          clear h0 h1 h2 h3
          go_wp2_with fail
          go_ret
          exact ⟨ret_bool HF.out.symm,below_two _ _⟩
      · have d2:=(int_ne h2).1
        have HF:=Lib.hid (own_lo h2)
        clear h0 h1 h2
        go_wp2_with fail
        go_ret
        exact ⟨ret_bool HF.out.symm,below_two _ _⟩
    · have hx:a.set.eqb b.set=false:=by simpa using h1
      have d1:=fun W=>setEq W a.set b.set false hx
      have HF:=Lib.hid (own_set hx)
      clear hx
      clear h0 h1
      go_wp2_with fail
      go_ret
      exact ⟨ret_bool HF.out.symm,below_two _ _⟩
  · have d0:=(int_ne h0).1
    have HF:=Lib.hid (own_kind h0)
    clear h0
    go_wp2_with fail
    go_ret
    exact ⟨ret_bool HF.out.symm,below_two _ _⟩
def okL (ms ns:List Tr):Bool:=decide (ms.length=ns.length)&&(ms.zip ns).all (fun x=>ownSame x.1 x.2)
theorem all_take_no {α:Type} {l:List α} {f:α→Bool} {j:Nat} (h:j<l.length) (hf:f l[j]=false):l.all f=false:=by
  rw[List.all_eq_false]
  exact ⟨l[j],List.getElem_mem h,by rw[hf];decide⟩
theorem tEqRe (k:Nat) (u v:Value) (ms ns:List Tr) (w:World) (ha:PL w k u ms) (hb:PL w k v ns) (hl:ms.length≤4000000) (hl2:ns.length≤4000000) :
    Calls Tryz.prog 44 #[u,v,.func (.func 45) #[] #[]] w fun e w'=>e=.returned (.bool (okL ms ns))∧Below w.heap.size w w':=by
  obtain ⟨k,rfl⟩:∃k',k=k'+1:=by
    cases k with
    | zero =>
      obtain ⟨_,_,_,_,h0,_,_,_,h⟩:=ha
      exact (h _ (List.getElem_mem h0)).1.elim
    | succ k=>exact ⟨k,rfl⟩
  obtain ⟨b1,o1,c1,rfl,hm0,hb1,_,hr1,hin1⟩:=ha
  obtain ⟨b2,o2,c2,rfl,hn0,hb2,_,hr2,hin2⟩:=hb
  have HB1:=Lib.hid hb1
  have HB2:=Lib.hid hb2
  have HR1:=Lib.hid hr1
  have HR2:=Lib.hid hr2
  have HI1:=Lib.hid hin1
  have HI2:=Lib.hid hin2
  clear hb1 hb2 hr1 hr2 hin1 hin2
  go_enter Tryz.func44,Tryz.ntmps44
  by_cases hne:ms.length=ns.length
  · have d0:=(int_eq (show (ms.length:Int)=(ns.length:Int) by omega)).2
    have HNe:=Lib.hid hne
    clear hne
    go_wp2_with fail
    go_loopw [17] (fun i wr=>∃j:Nat,j≤ms.length∧i=.int .i64 j∧Hid (((ms.zip ns).take j).all (fun x=>ownSame x.1 x.2)=true)∧Hid (Below w.heap.size w wr)) (fun i _=>ms.length-(intOf i).toNat)
    case atStart=>exact ⟨0,Nat.zero_le _,rfl,Lib.hid (by simp),Lib.hid (Below.refl _ _)⟩
    case round =>
      obtain ⟨j,hj,rfl,HT,HB⟩:=hrel
      by_cases hlt:j<ms.length
      · have hlt2:j<ns.length:=by have:=HNe.out;omega
        have hjz:(0:Int)≤(j:Int):=by omega
        have hjn:(j:Int)<(ms.length:Int):=by omega
        have hjm:(j:Int)<(ns.length:Int):=by omega
        have HX:=Lib.hid (range_below (HR1.out j hlt) HB1.out (Nat.le_refl _) HB.out)
        have HIx:=Lib.hid (HI1.out _ (List.getElem_mem hlt)).1.2.1
        have HIy:=Lib.hid (HI2.out _ (List.getElem_mem hlt2)).1.2.1
        have HZ:Hid ((ms.zip ns)[j]'(by rw[List.length_zip];omega)=(ms[j],ns[j])):=Lib.hid (by simp)
        have hbx:=boxW_next wr ms[j]
        have HY:=Lib.hid (range_below (HR2.out j hlt2) HB2.out (Nat.le_refl _) (HB.out.trans (hbx.mono HB.out.size)))
        obtain ⟨s,hs⟩:∃s,s=ms[j]:=⟨_,rfl⟩
        obtain ⟨t,ht⟩:∃t,t=ns[j]:=⟨_,rfl⟩
        rw[←hs] at HX HIx HZ HY hbx
        rw[←ht] at HY HIy HZ
        clear hs ht
        have hby:=boxW_next (boxW wr s) t
        have HBx:=Lib.hid (At.below (boxW_at wr s) hby (by rw[boxW_size];omega))
        have HBy:=Lib.hid (boxW_at (boxW wr s) t)
        have HB2':=Lib.hid (HB.out.trans ((hbx.trans (hby.mono hbx.size)).mono HB.out.size))
        have hsz:=boxW_size wr s
        rw[hsz] at HBy
        have honeS:=Tr.one s
        have honeT:=Tr.one t
        clear hbx hby
        go_wp2_with (first
          | (with_reducible show wpList _ _ _ (⟨some 21,.load 27 _,_,_,_,_⟩::_) _ _
             refine wpList_load_mid rfl 27 _ rfl b1 (o1+j*9) rfl s.cs _ HX.out Tryz.underlying27 rfl (by rw[Tr.cs_length];kernel_rfl) ?_)
          | (with_reducible show wpList _ _ _ (⟨none,.store 27 (.tmp 8) _,_,_,_,_⟩::_) _ _
             refine wpList_store_row rfl 27 _ _ rfl wr.heap.size s.cs.toArray rfl rfl 27 Tr.blank.cs.toArray (At.new _ _ _) (by kernel_rfl) rfl honeS ?_
             change Exit.then _ _ _ _ (boxW wr s))
          | (with_reducible show wpList _ _ _ (⟨some 25,.load 27 _,_,_,_,_⟩::_) _ _
             refine wpList_load_mid rfl 27 _ rfl b2 (o2+j*9) rfl t.cs _ HY.out Tryz.underlying27 rfl (by rw[Tr.cs_length];kernel_rfl) ?_)
          | (with_reducible show wpList _ _ _ (⟨none,.store 27 (.tmp 9) _,_,_,_,_⟩::_) _ _
             refine wpList_store_row rfl 27 _ _ rfl (boxW wr s).heap.size t.cs.toArray (by first | rfl | (rw[boxW_size];rfl)) rfl 27 Tr.blank.cs.toArray (At.new _ _ _) (by kernel_rfl) rfl honeT ?_
             change Exit.then _ _ _ _ (boxW (boxW wr s) t))
          | (with_reducible show wpList _ _ _ (⟨some 27,.load 27 _,_,_,_,_⟩::_) _ _
             refine wpList_load_row rfl 27 _ rfl wr.heap.size rfl 27 s.cs.toArray (0,0) _ HBx.out Tryz.underlying27 rfl (by kernel_rfl) ?_)
          | (with_reducible show wpList _ _ _ (⟨some 28,.load 27 _,_,_,_,_⟩::_) _ _
             refine wpList_load_row rfl 27 _ rfl (wr.heap.size+1) (by first | rfl | (rw[←boxW_size wr s];rfl)) 27 t.cs.toArray (0,0) _ HBy.out Tryz.underlying27 rfl (by kernel_rfl) ?_)
          | fail)
        refine (tSbp s t HIx.out.1 HIy.out.1 (by have:=HIx.out;omega) (by have:=HIy.out;omega) _).mono ?_
        rintro e w4 ⟨rfl,hb4⟩
        have HB4:=Lib.hid (HB2'.out.trans (hb4.mono HB2'.out.size))
        clear hb4
        obtain ⟨r,hrr⟩:∃r,r=ownSame s t:=⟨_,rfl⟩
        have HRr:=Lib.hid hrr
        rw[←hrr]
        clear hrr
        cases r with
        | true =>
          go_wp2_with fail
          exact ⟨⟨j+1,by omega,by go_num,Lib.hid (by rw[List.take_succ_eq_append_getElem (by rw[List.length_zip];omega),List.all_append,HT.out,HZ.out];simp[←HRr.out]),HB4⟩,by simp[intOf];omega⟩
        | false =>
          have HF:Hid (okL ms ns=false):=Lib.hid (by unfold okL;rw[all_take_no (j:=j) (by rw[List.length_zip];omega) (by rw[HZ.out];exact HRr.out.symm),Bool.and_false])
          go_wp2_with fail
          go_ret
          exact ⟨ret_bool HF.out.symm,HB4.out⟩
      · obtain rfl:j=ms.length:=by omega
        have HF:Hid (okL ms ns=true):=Lib.hid (by
          have h:=HT.out
          rw[List.take_of_length_le (by rw[List.length_zip];have:=HNe.out;omega)] at h
          unfold okL;rw[h,decide_eq_true HNe.out];rfl)
        go_wp2_with fail
        go_ret
        exact ⟨ret_bool HF.out.symm,HB.out⟩
  · have d0:=(int_ne (show ¬(ms.length:Int)=(ns.length:Int) by omega)).2
    have HF:Hid (okL ms ns=false):=Lib.hid (by unfold okL;rw[decide_eq_false hne,Bool.false_and])
    clear hne
    go_wp2_with fail
    go_ret
    exact ⟨ret_bool HF.out.symm,Below.refl _ _⟩
end Go.Proofs.YtgmpfnfomgadeaaGreat
