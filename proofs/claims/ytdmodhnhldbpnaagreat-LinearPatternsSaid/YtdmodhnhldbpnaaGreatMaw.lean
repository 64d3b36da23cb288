/- Joined: Below, DeepT. -/
import Derived.Test.YtdmodhnhldbpnaaGreatMav
import Derived.Test.YtdmodhnhldbpnaaGreatAid
/- tree.below: the lists one level below, whatever the map of places says of them. -/
set_option linter.unusedSimpArgs false
set_option linter.unusedVariables false
set_option maxHeartbeats 8000000
set_option maxRecDepth 100000
namespace Go.Proofs.YtdmodhnhldbpnaaGreat
section
open Go.RowKit
def PL (w:World) (k:Nat) (u:Value) (ms:List Tr):Prop :=
 ∃b off cap,u=.slice (some ⟨b,off,none⟩) ms.length cap/\0<ms.length/\b<w.heap.size/\w.frozen? ⟨b,off,none⟩=false/\(∀(j:Nat) (h:j<ms.length),w.rangeAt b (off+j*9) ms[j].cs)/\∀p∈ms,Tr.Ins w k p
theorem PL.next {w w':World} {k:Nat} {u:Value} {ms:List Tr} (h:PL w k u ms) (hb:Below w.heap.size w w'):PL w' k u ms:=by
 obtain ⟨b,off,cap,h1,h2,h3,h4,h5,h6⟩:=h
 exact ⟨b,off,cap,h1,h2,qM h3 hb.size,by rw[World.frozen?_of_block (w:=w) (hb.block b h3)];exact h4,fun j hj=>zaE (h5 j hj) h3 zqn hb,fun p hp=>(h6 p hp).next hb⟩
theorem zsu {w:World} {k:Nat} {t:Tr} (h:Tr.Ins w (k+1) t) (h0:0<t.parts.length):PL w k (.slice t.addr t.parts.length t.cap) t.parts:=by
 have hn:0<t.n:=by rw[h.1.2.1.1];exact h0
 obtain ⟨b,off,e,hlt,hr⟩:=h.1.2.2.1 hn
 exact ⟨b,off,t.cap,by rw[e],h0,hlt,h.2.1 hn b off e,hr,fun p hp=>by
  obtain ⟨j,hj,rfl⟩:=yT hp
  exact ⟨h.1.2.2.2 j hj,h.2.2 _ hp⟩⟩
theorem zpO {w:World} {b off:Nat} {cs:List Value} {v:Value} (hf:w.frozen? ⟨b,off,none⟩=false) (hr:w.rangeAt b off (v::cs)):zcu w ⟨b,off,none⟩:=by
 refine ⟨?_,hf⟩
 have:=hr 0 v rfl
 unfold World.cell? at this
 unfold World.shape?
 dsimp only at this ⊢
 split at this
 ·rfl
 ·cases this
def znI (w:World) (v:Value) (us:List Value):Prop:=∃A cap,v=.slice A us.length cap/\(0<us.length->∃b off,A=some ⟨b,off,none⟩/\b<w.heap.size/\w.rangeAt b off us)
theorem znJ {w:World} {base n:Nat} {e:TypeId} {v:Value} {us:List Value} (h:w.ownsRow base e 1 v n us):znI w v us:=by
 obtain ⟨hl,h | ⟨g,cap,cur,e1,hb,hh,h1,h2,h3,h4⟩⟩:=h
 ·have:us.length=0:=by rw[hl,h.2]
  exact ⟨none,0,by rw[h.1,this],fun q=>absurd q (by omega)⟩
 ·have hl':us.length=n:=by rw[hl,Nat.mul_one]
  refine ⟨some ⟨g,0,none⟩,cap,by rw[e1,hl'],fun h0=>⟨g,0,rfl,?_,fun i u hu=>?_⟩⟩
  ·rcases Nat.lt_or_ge g w.heap.size with q | q
   ·exact q
   ·rw[xM q] at hh;cases hh
  ·have hA:At w g e cur:=hh
   have hi:i<us.length:=(List.getElem?_eq_some_iff.1 hu).1
   rw[yH,hA.cell]
   rw[<-h4,jV (by omega)] at hu
   simpa using hu
def zj7 (w:World) (a:Addr) (n:Int):World:=(w.alloc (.cells #[.pointer none,.int .i64 0] 190)).setRow w.heap.size #[.pointer (some a),.int .i64 n]
theorem zsv (w:World) (a:Addr) (n:Int):At (zj7 w a n) w.heap.size 190 #[.pointer (some a),.int .i64 n]:=At.row (At.new w 190 #[.pointer none,.int .i64 0]) _
theorem znK (w:World) (a:Addr) (n:Int):Below w.heap.size w (zj7 w a n):=(zqb).trans ((zfN.row _ _ _).below zqn)
theorem zpP (b off n c:Nat) (h0:0<n) (w:World):Calls Tryz.prog 160 #[.slice (some ⟨b,off,none⟩) n c] w fun e w'=>e=.returned (.agg #[.pointer (some ⟨b,off,none⟩),.int .i64 n])/\Below w.heap.size w w':=by
 have hl0:(0:Int)<(n:Int):=by omega
 have hz:At (w.alloc (.cells #[.pointer none,.int .i64 0] 190)) w.heap.size 190 #[.pointer none,.int .i64 0]:=At.new _ _ _
 go_enter Tryz.func160,Tryz.ntmps160
 go_wp2_with fail
 exact yD (results_cell_row Tryz.results160 _ _ w.heap.size 190 #[.pointer (some ⟨b,off,none⟩),.int .i64 n] (0,0) _ rfl (At.new _ _ _) Tryz.underlying190 rfl (by kernel_rfl)) rfl ⟨rfl,zqb⟩
theorem zsw:(Tryz.prog.info? 47).map (fun i=>(i.zero,i.size,i.bytes))=some (some (.slice none 0 0),1,24):=by kernel_rfl
theorem zpQ (w:World):(Instr.makeMap 187 none).run Tryz.prog w=.ok (.map (some w.heap.size)) (w.alloc (.map #[] 0)):=by kernel_rfl
theorem zsx (w:World):MapAt (w.alloc (.map #[] 0)) w.heap.size:=⟨#[],0,heap_alloc_new w _,fun e he=>by cases he⟩
structure BI (w:World) (k:Nat) (wr:World) (nx:Value) (ns:List (Value×List Tr)) (S:Nat):Prop where
 own:wr.ownsRow (w.heap.size+1) 47 1 nx ns.length (ns.map (·.1))
 pls:∀p∈ns,PL w k p.1 p.2
 sum:(ns.map (fun p=>lmS k p.2)).sum<=S
 map:MapAt wr w.heap.size
 below:Below w.heap.size w wr
 size:w.heap.size+1<=wr.heap.size
theorem BI.next {w wr wr':World} {k S:Nat} {nx:Value} {ns:List (Value×List Tr)} (h:BI w k wr nx ns S) (hb:Below wr.heap.size wr wr'):BI w k wr' nx ns S:=by
 refine ⟨?_,h.pls,h.sum,h.map.next hb,h.below.trans (hb.mono h.below.size),qH h.size hb.size⟩
 obtain ⟨h1,h2⟩:=h.own
 refine ⟨h1,?_⟩
 rcases h2 with h2 | ⟨b,cap,cur,hv,hbb,hh,r⟩
 ·exact Or.inl h2
 ·refine Or.inr ⟨b,cap,cur,hv,hbb,?_,r⟩
  have hlt:b<wr.heap.size:=by
   rcases Nat.lt_or_ge b wr.heap.size with q | q
   ·exact q
   ·rw[xM q] at hh;cases hh
  rw[hb.block b hlt];exact hh
theorem BI.more {w wr:World} {k S S':Nat} {nx:Value} {ns:List (Value×List Tr)} (h:BI w k wr nx ns S) (hS:S<=S'):BI w k wr nx ns S':=⟨h.own,h.pls,qH h.sum hS,h.map,h.below,h.size⟩
theorem BI.mapped {w wr wr':World} {k S:Nat} {nx:Value} {ns:List (Value×List Tr)} (h:BI w k wr nx ns S) (hg:wr.grownBy wr' (some w.heap.size)) (hm:MapAt wr' w.heap.size):BI w k wr' nx ns S :=
 ⟨zil h.own hg (xW _),h.pls,h.sum,hm,h.below.trans (zl4 hg h.below.size),qH h.size hg.size⟩
theorem znL {w:World} {k:Nat} (l:List (Value×List Tr)) (h:∀p∈l,PL w k p.1 p.2):l.length<=(l.map (fun p=>lmS k p.2)).sum:=by
 induction l with
 | nil=>exact qL 0
 | cons p r ih =>
  have h1:=ih (fun q hq=>h q (qX _ hq))
  obtain ⟨_,_,_,_,h2,_⟩:=h p (by simp)
  have:=zt2 (k:=k) h2
  rw[jW,kM,jX];omega
theorem zt3 (k:Nat) (ms:List Tr):ms.length<=lmS k ms:=by
 induction ms with
 | nil=>exact qL 0
 | cons t r ih=>have:=zkX k t;unfold lmS at *;rw[jW,kM,jX];omega
theorem BI.len {w wr:World} {k S:Nat} {nx:Value} {ns:List (Value×List Tr)} (h:BI w k wr nx ns S):ns.length<=S:=qH (znL ns h.pls) h.sum
theorem zfg {α:Type} (f:α->Nat) (l:List α) (j:Nat) (h:j<l.length):((l.take (j+1)).map f).sum=((l.take j).map f).sum+f l[j]:=by
 rw[qW h,jE,List.sum_append];simp
theorem zeF {α:Type} (f:α->Nat) (l:List α) (j:Nat):((l.take j).map f).sum<=(l.map f).sum:=by
 have h:(l.map f).sum=((l.take j).map f).sum+((l.drop j).map f).sum:=by rw[<-List.sum_append,<-jE,List.take_append_drop]
 omega
theorem zq5 (k:Nat) (v:Value) (ps:List (Value×List Tr)) (w:World) (hv:znI w v (ps.map (·.1))) (hp:∀p∈ps,PL w (k+1) p.1 p.2) (hM:(ps.map (fun p=>lmS (k+1) p.2)).sum<=4000000) :
  Calls Tryz.prog 118 #[v] w fun e w'=>∃(v':Value) (ps':List (Value×List Tr)),e=.returned v'/\znI w' v' (ps'.map (·.1))/\(∀p∈ps',PL w' k p.1 p.2)/\(ps'.map (fun p=>lmS k p.2)).sum<=(ps.map (fun p=>lmS (k+1) p.2)).sum/\Below w.heap.size w w':=by
 obtain ⟨A,cap,rfl,hr⟩:=hv
 have hln:(ps.map (·.1)).length=ps.length:=qS _
 rw[hln] at hr ⊢
 have HR:=zqh hr
 have HPS:=zqh hp
 have HM:=zqh hM
 have hpl:ps.length<=4000000:=qH (znL ps hp) hM
 have hmk:=zpQ w
 obtain ⟨i0,hi0,hz0,hz1,hz2⟩:=yZ zsw
 have hz1':i0.size=1:=hz1
 have HBI:=zqh (show BI w k (w.alloc (.map #[] 0)) (.slice none 0 0) [] (((ps.take 0).map (fun p=>lmS (k+1) p.2)).sum) from ⟨⟨rfl,Or.inl ⟨rfl,rfl⟩⟩,fun p hp=>absurd hp xK,qK _,zsx w,zqb,by simp⟩)
 clear hr hp hM hln
 go_enter Tryz.func118,Tryz.ntmps118
 go_wp2_with fail
 clear hmk
 generalize w.alloc (.map #[] 0)=w1 at HBI ⊢
 go_loopw [3,15] (fun nx i wr=>∃(d:Nat) (ns:List (Value×List Tr)),d<=ps.length/\i=.int .i64 d/\Hid (BI w k wr nx ns (((ps.take d).map (fun p=>lmS (k+1) p.2)).sum))) (fun _ i _=>ps.length-(intOf i).toNat)
 case atStart=>exact ⟨0,[],qK _,rfl,HBI⟩
 case round =>
  clear HBI
  obtain ⟨d,ns,hd,rfl,HBI⟩:=hrel
  by_cases hlt:d<ps.length
  ·obtain ⟨b,off,rfl,hb,hr⟩:=HR.out (by omega)
   have hpd:=HPS.out _ (qG hlt)
   have hrd:wr.cell? ⟨b,off+d,none⟩=some ps[d].1:=by
    have:=hr d ps[d].1 (by rw[xC,qI hlt];rfl)
    rw[yA (w:=w) (HBI.out.below.block b hb)];exact this
   have hdz:(0:Int)<=(d:Int):=by omega
   have hdn:(d:Int)<(ps.length:Int):=by omega
   have HSum:=zqh (zfg (fun p:Value×List Tr=>lmS (k+1) p.2) ps d hlt)
   generalize hpp:ps[d]=pd at hpd hrd HSum
   obtain ⟨u,ms⟩:=pd
   obtain ⟨b1,o1,c1,hu,hm0,hb1,hf1,hr1,hin1⟩:=hpd
   have hu':u=.slice (some ⟨b1,o1,none⟩) ms.length c1:=hu
   subst hu'
   have HML:=zqh hm0
   have HB1:=zqh hb1
   have HR1:=zqh hr1
   have HI1:=zqh hin1
   have HSS:Hid (((ps.take (d+1)).map (fun p=>lmS (k+1) p.2)).sum<=4000000):=zqh (qH (zeF _ _ _) HM.out)
   have hml:ms.length<=4000000:=by
    have h1:=zt3 (k+1) ms
    have h2:=HSum.out
    have h3:=HSS.out
    dsimp only at h2
    omega
   clear hb hr hpp hu hm0 hb1 hf1 hr1 hin1
   generalize ((ps.take d).map (fun p=>lmS (k+1) p.2)).sum=S0 at HBI HSum
   go_wp2_with fail
   clear hrd
   go_loopw [3,21] (fun nx i wr=>∃(j:Nat) (ns:List (Value×List Tr)),j<=ms.length/\i=.int .i64 j/\Hid (BI w k wr nx ns (S0+((ms.take j).map (zcO (k+1))).sum))) (fun _ i _=>ms.length-(intOf i).toNat)
   case atStart=>exact ⟨0,ns,qK _,rfl,zqh (HBI.out.more (Nat.le_add_right _ _))⟩
   case round =>
    clear HBI
    obtain ⟨j,ns,hj,rfl,HBI⟩:=hrel
    by_cases hjlt:j<ms.length
    ·have hjz:(0:Int)<=(j:Int):=by omega
     have hjn:(j:Int)<(ms.length:Int):=by omega
     have HRj:=zqh (zaE (HR1.out j hjlt) HB1.out zqn HBI.out.below)
     have HIj:=zqh (HI1.out _ (qG hjlt))
     have HSj:=zqh (zfg (zcO (k+1)) ms j hjlt)
     have HSl:=zqh (zeF (zcO (k+1)) ms (j+1))
     generalize ms[j]=t at HRj HIj HSj
     have hone:=Tr.one t
     have hbx:=zbG wr t
     have HBx:=zqh (zfE wr t)
     have HBI2:=zqh (HBI.out.next hbx)
     have c5:=HBx.out.cell 5
     rw[show t.cs.toArray[5]?=some (.slice t.addr t.n t.cap) from rfl,HIj.out.1.2.1.1] at c5
     have f5:=HBx.out.free 5
     clear hbx
     by_cases h0:t.parts.length=0
     ·rw[h0] at c5
      clear h0
      go_wp2_with (first
       |(refine wpList_load_mid rfl 49 _ rfl b1 (o1+j*9) rfl t.cs _ HRj.out Tryz.underlying49 rfl (by rw[Tr.cs_length];kernel_rfl) ?_)
       |(with_reducible show wpList _ _ _ (⟨none,.store _ _ _,_,_,_,_⟩::_) _ _
         refine qN rfl 49 _ _ rfl wr.heap.size t.cs.toArray rfl rfl 49 Tr.blank.cs.toArray (At.new _ _ _) (by kernel_rfl) rfl hone ?_
         change Exit.then _ _ _ _ (zjT wr t))
       | fail)
      exact ⟨⟨j+1,ns,by omega,by go_num,zqh (HBI2.out.more (by rw[HSj.out];omega))⟩,by simp[intOf];omega⟩
     ·have hpl2:=zsu HIj.out (by omega)
      obtain ⟨b2,o2,c2,hu,hp0,hb2,hf2,hr2,hin2⟩:=id hpl2
      have hu':t.addr=some ⟨b2,o2,none⟩:=by injection hu
      have hc':t.cap=c2:=by injection hu
      have HPL:=zqh hpl2
      have hsol:zcu w ⟨b2,o2,none⟩:=by
       have h:=hr2 0 hp0
       rw[Nat.zero_mul,Nat.add_zero] at h
       exact zpO hf2 h
      have HSO:=zqh hsol
      have HB2:=zqh hb2
      rw[hu'] at c5
      have hne1:¬(t.parts.length:Int)=0:=by omega
      have hne:=(zab hne1).1
      have HU:=zqh hu'
      clear hpl2 hu hu' hc' hsol hb2 hf2 hr2 hin2 hne1 h0
      go_wp2_with (first
       |(refine wpList_load_mid rfl 49 _ rfl b1 (o1+j*9) rfl t.cs _ HRj.out Tryz.underlying49 rfl (by rw[Tr.cs_length];kernel_rfl) ?_)
       |(with_reducible show wpList _ _ _ (⟨none,.store _ _ _,_,_,_,_⟩::_) _ _
         refine qN rfl 49 _ _ rfl wr.heap.size t.cs.toArray rfl rfl 49 Tr.blank.cs.toArray (At.new _ _ _) (by kernel_rfl) rfl hone ?_
         change Exit.then _ _ _ _ (zjT wr t))
       | fail)
      refine (zpP b2 o2 t.parts.length t.cap hp0 (zjT wr t)).mono ?_
      rintro e w4 ⟨rfl,hb4⟩
      have hbp:=znK w4 ⟨b2,o2,none⟩ t.parts.length
      have HPx:=zqh (zsv w4 ⟨b2,o2,none⟩ t.parts.length)
      have HBI3:=zqh ((HBI2.out.next hb4).next hbp)
      have HBx3:=zqh (At.below (At.below HBx.out hb4 HBx.out.lt) hbp (qM HBx.out.lt hb4.size))
      have HSO3:=zqh (HSO.out.block (w':=zj7 w4 ⟨b2,o2,none⟩ t.parts.length) (HBI3.out.below.block b2 HB2.out))
      obtain ⟨fb,q,hlk⟩:=zl2 (zj7 w4 ⟨b2,o2,none⟩ t.parts.length) w.heap.size ⟨b2,o2,none⟩ t.parts.length HBI3.out.map HSO3.out
      unfold zbx zgS at hlk
      clear hb4 hbp c5 f5
      have hzs:(zeroValue 111).run Tryz.prog ((zj7 w4 ⟨b2,o2,none⟩ t.parts.length).drewN q)=.ok (.agg #[]) ((zj7 w4 ⟨b2,o2,none⟩ t.parts.length).drewN q):=(zero_of_info (P:=Tryz.prog) (n:=0) (by kernel_rfl)).1 _
      have honeP:(#[.pointer (some ⟨b2,o2,none⟩),.int .i64 (t.parts.length:Int)]:Array Value).all (·.oneCell')=true:=by simp[Value.oneCell']
      have hb5:Below (zj7 w4 ⟨b2,o2,none⟩ t.parts.length).heap.size (zj7 w4 ⟨b2,o2,none⟩ t.parts.length) (((zj7 w4 ⟨b2,o2,none⟩ t.parts.length).drewN q).alloc (.cells #[] 111)):=⟨rfl,rfl,rfl,by show (zj7 w4 _ _).heap.size<=((zj7 w4 _ _).heap.push _).size;simp,fun i hi=>yL _ _ _ hi⟩
      have HBI5:=zqh (HBI3.out.next hb5)
      have HBx5:=zqh (At.below HBx3.out hb5 HBx3.out.lt)
      have HPx5:=zqh (At.below HPx.out hb5 HPx.out.lt)
      have HSO5:=zqh (HSO3.out.block (w':=((zj7 w4 ⟨b2,o2,none⟩ t.parts.length).drewN q).alloc (.cells #[] 111)) (hb5.block b2 (qM HB2.out HBI3.out.below.size)))
      clear hb5
      cases fb with
      | true =>
       go_wp2_with (first
        |(with_reducible show wpList _ _ _ (⟨none,.store _ _ _,_,_,_,_⟩::_) _ _
          refine qN rfl 190 _ _ rfl w4.heap.size #[.pointer (some ⟨b2,o2,none⟩),.int .i64 (t.parts.length:Int)] rfl rfl 190 #[.pointer none,.int .i64 0] (At.new _ _ _) (by kernel_rfl) rfl honeP ?_
          change Exit.then _ _ _ _ (zj7 w4 ⟨b2,o2,none⟩ t.parts.length))
        |(refine jU rfl 190 _ rfl w4.heap.size rfl 190 #[.pointer (some ⟨b2,o2,none⟩),.int .i64 (t.parts.length:Int)] (0,0) _ HPx.out Tryz.underlying190 rfl (by kernel_rfl) ?_)
        | fail)
       exact ⟨⟨j+1,ns,by omega,by go_num,zqh (HBI5.out.more (by rw[HSj.out];omega))⟩,by simp[intOf];omega⟩
      | false =>
       obtain ⟨w6,hup,hm6,hg6⟩:=zl3 (((zj7 w4 ⟨b2,o2,none⟩ t.parts.length).drewN q).alloc (.cells #[] 111)) w.heap.size ⟨b2,o2,none⟩ t.parts.length HBI5.out.map HSO5.out HB2.out
       unfold zbx zgS at hup
       have HBI6:=zqh (HBI5.out.mapped hg6 hm6)
       have hwr:=HBI.out.size
       have HBx6:=zqh (At.grown' HBx5.out hg6 (fun e=>by injection e with e;omega))
       have c5:=HBx6.out.cell 5
       rw[show t.cs.toArray[5]?=some (.slice t.addr t.n t.cap) from rfl,HIj.out.1.2.1.1,HU.out] at c5
       obtain ⟨w7,hw7⟩:∃w7,w7=w6.alloc (.cells #[.slice (some ⟨b2,o2,none⟩) t.parts.length t.cap] 47):=⟨_,rfl⟩
       have hb7:Below w6.heap.size w6 w7:=by rw[hw7];exact zqb
       have HBI7:=zqh (HBI6.out.next hb7)
       have HAt7:Hid (At w7 w6.heap.size 47 #[.slice (some ⟨b2,o2,none⟩) t.parts.length t.cap]):=zqh (by rw[hw7];exact At.new _ _ _)
       have HW7:=zqh hw7
       have hnl:ns.length<=4000000:=by
        have h1:=HBI.out.len
        have h2:=HSl.out
        have h3:=HSum.out
        have h4:=HSS.out
        have h3':(List.map (fun p:Value×List Tr=>lmS (k+1) p.2) (List.take (d+1) ps)).sum=S0+lmS (k+1) ms:=h3
        have h5:=zeF (zcO (k+1)) ms j
        have h6:lmS (k+1) ms=(ms.map (zcO (k+1))).sum:=rfl
        omega
       clear hm6 hg6 hb7 hw7 hwr
       go_wp2_with (first
        |(with_reducible show wpList _ _ _ (⟨none,.store 190 _ _,_,_,_,_⟩::_) _ _
          refine qN rfl 190 _ _ rfl w4.heap.size #[.pointer (some ⟨b2,o2,none⟩),.int .i64 (t.parts.length:Int)] rfl rfl 190 #[.pointer none,.int .i64 0] (At.new _ _ _) (by kernel_rfl) rfl honeP ?_
          change Exit.then _ _ _ _ (zj7 w4 ⟨b2,o2,none⟩ t.parts.length))
        |(refine jU rfl 190 _ rfl w4.heap.size rfl 190 #[.pointer (some ⟨b2,o2,none⟩),.int .i64 (t.parts.length:Int)] (0,0) _ HPx.out Tryz.underlying190 rfl (by kernel_rfl) ?_)
        |(refine jU rfl 190 _ rfl w4.heap.size rfl 190 #[.pointer (some ⟨b2,o2,none⟩),.int .i64 (t.parts.length:Int)] (0,0) _ HPx5.out Tryz.underlying190 rfl (by kernel_rfl) ?_)
        |(at_builtin
          rw[<-HW7.out]
          refine wpList_append_lies _ rfl _ _ _ rfl (w.heap.size+1) 47 i0 _ 1 24 Tryz.underlying152 hi0 hz0 hz1 hz2 rfl (by omega) _ ns.length _ rfl HBI7.out.own ⟨w6.heap.size,0,none⟩ 1 1 [.slice (some ⟨b2,o2,none⟩) t.parts.length t.cap] rfl rfl ?c1 ?c2 ?c6 ?c3 ?c4 ?c5 _ rfl ?_
          case c1=>exact fun i u hu=>by rw[Addr.add_mid,yH];exact (HAt7.out.cell i).trans (by simpa using hu)
          case c2=>exact fun u hu=>by simp at hu;subst hu;rfl
          case c6=>omega
          case c3=>unfold maxLen;omega
          case c4=>omega
          case c5=>exact HBI7.out.size
          intro gb cap w8 hown8 hg8 hat8 hlt8)
        | fail)
       have hlow:∀b,u3.ownBlock=some b->w.heap.size+1<=b:=fun b e=>(HBI7.out.own.lt b e).1
       have hb8:Below (w.heap.size+1) w7 w8:=⟨hg8.os,hg8.tape,hg8.output,hg8.size,fun q hq=>hg8.block q (qM hq HBI7.out.size) (fun e=>by have:=hlow q e.symm;omega)⟩
       have hsum:=HBI7.out.sum
       have hBI8:BI w k w8 (.slice (some ⟨gb,0,none⟩) (ns.length+1) cap) (ns++[(.slice (some ⟨b2,o2,none⟩) t.parts.length t.cap,t.parts)]) (S0+((ms.take (j+1)).map (zcO (k+1))).sum):=by
        refine ⟨by rw[jE,qF];exact hown8,fun p hp=>?_,?_,HBI7.out.map.keep hb8,HBI7.out.below.trans (hb8.mono (kU _)),qH HBI7.out.size hg8.size⟩
        ·rcases List.mem_append.1 hp with hp | hp
         ·exact HBI7.out.pls p hp
         ·have:p=(.slice (some ⟨b2,o2,none⟩) t.parts.length t.cap,t.parts):=by simpa using hp
          subst this
          have h:=HPL.out
          rw[HU.out] at h
          exact h
        ·rw[jE,List.sum_append,HSj.out,zl5]
         simp only[jW,kL,kM,List.sum_nil]
         omega
       exact ⟨⟨j+1,_,by omega,by go_num,zqh hBI8⟩,by simp[intOf];omega⟩
    ·obtain rfl:j=ms.length:=by omega
     go_wp2_with fail
     refine ⟨⟨d+1,ns,by omega,by go_num,zqh (HBI.out.more (by rw[HSum.out,qQ];exact qL _))⟩,by simp[intOf];omega⟩
  ·obtain rfl:d=ps.length:=by omega
   go_wp2_with fail
   go_ret
   refine ⟨_,ns,rfl,znJ HBI.out.own,fun p hp=>(HBI.out.pls p hp).next HBI.out.below,qH HBI.out.sum (by rw[qQ];exact qL _),HBI.out.below⟩
end

section
open Go.RowKit
theorem zu6 (k:Nat) (t:Tr) (w:World) (h:Tr.Ins w k t) (hm:zcO k t<=4000000) :
  Calls Tryz.prog 80 #[.agg t.cs.toArray] w fun e w'=>∃d:Nat,e=.returned (.int .i64 d)/\1<=d/\d<=41/\d<=k/\Below w.heap.size w w':=by
 obtain ⟨k',rfl⟩:∃k',k=k'+1:=by
  cases k with
  | zero=>exact h.1.elim
  | succ k'=>exact ⟨k',rfl⟩
 obtain ⟨w1,hw1⟩:∃w1,w1=w.alloc (.cells t.cs.toArray 49):=⟨_,rfl⟩
 have hb1:Below w.heap.size w w1:=by rw[hw1];exact zqb
 have hA1:At w1 w.heap.size 49 t.cs.toArray:=by rw[hw1];exact At.new _ _ _
 have hA1':At (w.alloc (.cells t.cs.toArray 49)) w.heap.size 49 t.cs.toArray:=At.new _ _ _
 obtain ⟨w2,hw2⟩:∃w2,w2=w1.alloc (.cells t.cs.toArray 49):=⟨_,rfl⟩
 have hb2:Below w1.heap.size w1 w2:=by rw[hw2];exact zqb
 have hA2:At w2 w1.heap.size 49 t.cs.toArray:=by rw[hw2];exact At.new _ _ _
 obtain ⟨w3,hw3⟩:∃w3,w3=w2.alloc (.cells #[.slice (some ⟨w1.heap.size,0,none⟩) 1 1] 47):=⟨_,rfl⟩
 have hb3:Below w2.heap.size w2 w3:=by rw[hw3];exact zqb
 have hA3:At w3 w2.heap.size 47 #[.slice (some ⟨w1.heap.size,0,none⟩) 1 1]:=by rw[hw3];exact At.new _ _ _
 have hA23:=At.below hA2 hb3 hA2.lt
 have hB:Below w.heap.size w w3:=(hb1.trans (hb2.mono hb1.size)).trans (hb3.mono (qH hb1.size hb2.size))
 have HARG:Hid (znI w3 (.slice (some ⟨w2.heap.size,0,none⟩) 1 1) ([((.slice (some ⟨w1.heap.size,0,none⟩) 1 1:Value),[t])].map (·.1))):=zqh ⟨some ⟨w2.heap.size,0,none⟩,1,rfl,fun _=>⟨w2.heap.size,0,rfl,hA3.lt,fun i u hu=>by rw[yH,hA3.cell];simpa using hu⟩⟩
 have HPL:Hid (∀p∈[((.slice (some ⟨w1.heap.size,0,none⟩) 1 1:Value),[t])],PL w3 (k'+1) p.1 p.2):=zqh (fun p hp=>by
  have:p=((.slice (some ⟨w1.heap.size,0,none⟩) 1 1:Value),[t]):=by simpa using hp
  subst this
  refine ⟨w1.heap.size,0,1,rfl,Nat.one_pos,hA23.lt,hA23.free 0,fun j hj i u hu=>?_,fun q hq=>?_⟩
  ·have hj':j<1:=hj
   obtain rfl:j=0:=by omega
   show World.cell? _ ⟨w1.heap.size,0+0*9+i,none⟩=some u
   rw[show 0+0*9+i=i by omega,hA23.cell]
   simpa using hu
  ·have:q=t:=by simpa using hq
   rw[this];exact h.next hB)
 have HSUM:Hid (([((.slice (some ⟨w1.heap.size,0,none⟩) 1 1:Value),[t])].map (fun p=>lmS (k'+1) p.2)).sum<=4000000):=zqh (by simpa [lmS] using hm)
 have HB:=zqh hB
 have HW1:=zqh hw1
 have HW2:=zqh hw2
 have HW3:=zqh hw3
 clear hb1 hb2 hb3 hA2 hA3 hA23 hB hw1 hw2 hw3 h hm
 go_enter Tryz.func80,Tryz.ntmps80
 go_wp2_with (first
  |(refine jU rfl 49 _ rfl w.heap.size rfl 49 t.cs.toArray (0,0) _ hA1' Tryz.underlying49 rfl (by kernel_rfl) ?_)
  |(with_reducible show wpList _ _ _ (⟨_,.buildSlice 47 _ _,_,_,_,_⟩::_) _ _
    rw[<-HW1.out]
    refine zgR rfl _ t rfl rfl ?_
    rw[<-HW2.out])
  | fail)
 rw[<-HW3.out]
 refine (zq5 k' _ _ w3 HARG.out HPL.out HSUM.out).mono ?_
 rintro e w4 ⟨v,ps,rfl,hv,hp,hs,hb⟩
 have HV:=zqh hv
 have HP:=zqh hp
 have HS:=zqh (qH hs HSUM.out)
 have HB4:=zqh (HB.out.trans (hb.mono HB.out.size))
 clear hv hp hs hb hA1 hA1'
 go_wp2_with fail
 go_loopw [3,4] (fun v l wr=>∃(d:Nat) (ps:List (Value×List Tr)),l=.int .i64 d/\(1<=d/\d<=41/\d<=k'+1)/\Hid (znI wr v (ps.map (·.1)))/\Hid (∀p∈ps,PL wr (k'+1-d) p.1 p.2)/\Hid ((ps.map (fun p=>lmS (k'+1-d) p.2)).sum<=4000000)/\Hid (Below w.heap.size w wr)) (fun _ l _=>41-(intOf l).toNat)
 case atStart=>exact ⟨1,ps,rfl,⟨qL _,by omega,by omega⟩,HV,by rw[xF];exact HP,by rw[xF];exact HS,HB4⟩
 case round =>
  clear HV HP HS HB4 HARG HPL HSUM HB HW1 HW2 HW3
  obtain ⟨d,ps,rfl,hd,HV,HP,HS,HB⟩:=hrel
  obtain ⟨A,cap,hv,_⟩:=id HV.out
  rw[qS] at hv
  subst hv
  by_cases hd40:d<=40
  ·have hdd:(d:Int)<=40:=by omega
   by_cases h0:ps.length=0
   ·rw[h0]
    clear h0
    go_wp2_with fail
    go_ret
    exact ⟨d,rfl,hd.1,hd.2.1,hd.2.2,HB.out⟩
   ·have h0':(0:Int)<(ps.length:Int):=by omega
    have hkd:k'+1-d=(k'-d)+1:=by
     obtain ⟨p,hp⟩:∃p,p∈ps:=List.exists_mem_of_length_pos (by omega)
     obtain ⟨_,_,_,_,hm,_,_,_,hin⟩:=HP.out p hp
     obtain ⟨q,hq⟩:∃q,q∈p.2:=List.exists_mem_of_length_pos hm
     have:=(hin q hq).1
     rcases Nat.lt_or_ge d (k'+1) with x | x
     ·omega
     ·rw[show k'+1-d=0 by omega] at this;exact this.elim
    have HKD:=zqh hkd
    have HP':Hid (∀p∈ps,PL wr ((k'-d)+1) p.1 p.2):=by rw[<-hkd];exact HP
    have HS':Hid ((ps.map (fun p=>lmS ((k'-d)+1) p.2)).sum<=4000000):=by rw[<-hkd];exact HS
    clear hkd h0
    go_wp2_with fail
    refine (zq5 (k'-d) _ ps wr HV.out HP'.out HS'.out).mono ?_
    rintro e w4 ⟨v,ps2,rfl,hv,hp,hs,hb⟩
    have HV4:=zqh hv
    have HP4:=zqh hp
    have HS4:=zqh (qH hs HS'.out)
    have HB4:=zqh (HB.out.trans (hb.mono HB.out.size))
    clear hv hp hs hb
    go_wp2_with fail
    have hk2:k'+1-(d+1)=k'-d:=by omega
    exact ⟨⟨d+1,ps2,by go_num,⟨by omega,by omega,by have:=HKD.out;omega⟩,HV4,by rw[hk2];exact HP4,by rw[hk2];exact HS4,HB4⟩,by simp[intOf];omega⟩
  ·have hdd:¬(d:Int)<=40:=by omega
   obtain rfl:d=41:=by omega
   go_wp2_with fail
   go_ret
   exact ⟨41,rfl,hd.1,hd.2.1,hd.2.2,HB.out⟩
end
end Go.Proofs.YtdmodhnhldbpnaaGreat
