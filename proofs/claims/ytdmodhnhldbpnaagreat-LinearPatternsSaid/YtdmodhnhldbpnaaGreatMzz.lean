/- Joined: Copied, Lv. -/
import Derived.Test.YtdmodhnhldbpnaaGreatProg
import Derived.Test.YtdmodhnhldbpnaaGreatMav
import Derived.Test.YtdmodhnhldbpnaaGreatMax
import Derived.Test.YtdmodhnhldbpnaaGreatMay
import Derived.Test.YtdmodhnhldbpnaaGreatAid
/- tree.copied: a pattern in memory of its own. -/
set_option linter.unusedSimpArgs false
set_option linter.unusedVariables false
set_option maxHeartbeats 4000000
set_option maxRecDepth 100000
namespace Go.Proofs.YtdmodhnhldbpnaaGreat
section
open Go.RowKit
theorem Tr.Sol.only {g base:Nat} {w w':World} (ho:zfN g w w') (hg:g<base):∀(k:Nat) (t:Tr),Tr.From base k t->Tr.Sol w k t->Tr.Sol w' k t
 | 0,_,_,_=>trivial
 | k+1,t,hf,hs=>⟨fun h0 b off e=>by
   have hb:=hf.1 h0 b off e
   rw[World.frozen?_of_block (w:=w) (ho.2.2.2.2 b (by omega))]
   exact hs.1 h0 b off e,fun p hp=>Tr.Sol.only ho hg k p (hf.2 p hp) (hs.2 p hp)⟩
theorem Tr.Ins.only {g base k:Nat} {w w':World} {t:Tr} (h:Tr.Ins w k t) (hf:Tr.From base k t) (ho:zfN g w w') (hg:g<base):Tr.Ins w' k t :=
 ⟨h.1.only hf ho hg,Tr.Sol.only ho hg k t hf h.2⟩
def zsA (S:Nat->Tr->Tr) (k:Nat) (t:Tr) (w:World) (e:Ending) (w':World):Prop:=∃t2:Tr,e=.returned (.agg t2.cs.toArray)/\Tr.Ins w' k t2/\Tr.From w.heap.size k t2/\t2.strip k=S k t/\Below w.heap.size w w'
def zkZ (F:Nat) (S:Nat->Tr->Tr) (k:Nat):Prop:=∀(t:Tr) (w:World),Tr.In w k t->zeP k t->Calls Tryz.prog F #[.agg t.cs.toArray] w (zsA S k t w)
def zfi (S:Nat->Tr->Tr) (w':World) (B k n:Nat) (A:Option Addr) (parts:List Tr) (ps:Nat->Tr):Prop :=
 0<n->∃g,A=some ⟨g,0,none⟩/\B<=g/\g<w'.heap.size/\zeE w' g n ps/\∀(p:Nat) (h:p<parts.length),Tr.Ins w' k (ps p)/\Tr.From (g+1) k (ps p)/\(ps p).strip k=S k parts[p]
theorem zfi.plain {S:Nat->Tr->Tr} {w:World} {B k n:Nat} {A:Option Addr} {parts:List Tr} {ps:Nat->Tr} (h:zfi S w B k n A parts ps):znE S w B k n A parts ps:=fun h0=>by
 obtain ⟨g,e,hb,hlt,hr,hp⟩:=h h0
 exact ⟨g,e,hb,hlt,hr,fun p hh=>⟨(hp p hh).1.1,(hp p hh).2⟩⟩
def zjc (S:Nat->Tr->Tr) (k n:Nat) (parts:List Tr) (w:World) (e:Ending) (w':World):Prop :=
 ∃(A:Option Addr) (c:Nat) (ps:Nat->Tr),e=.returned (.slice A n c)/\(n=0->A=none/\c=0)/\zfi S w' w.heap.size k n A parts ps/\Below w.heap.size w w'
theorem zfi.only {S:Nat->Tr->Tr} {w w':World} {B k n g0:Nat} {A:Option Addr} {parts:List Tr} {ps:Nat->Tr} (h:zfi S w B k n A parts ps) (ho:zfN g0 w w') (hg:g0<B):zfi S w' B k n A parts ps:=fun h0=>by
 obtain ⟨g,e,hb,hlt,hr,hp⟩:=h h0
 obtain ⟨g',e',hb',hlt',hr',hp'⟩:=h.plain.only ho hg h0
 have:g'=g:=by rw[e] at e';injection e' with e';injection e' with e';exact e'.symm
 subst this
 exact ⟨g',e,hb,hlt',hr',fun p hpp=>⟨(hp p hpp).1.only (hp p hpp).2.1 ho (by omega),(hp p hpp).2⟩⟩
theorem zp7 {S:Nat->Tr->Tr} {w':World} {B k n c:Nat} {A:Option Addr} {parts:List Tr} {ps:Nat->Tr} {kd lo hi:Int} {set:St} {neg:Bool} (hset:set.Ok) (hkd:I64 kd) (hlo:I64 lo) (hhi:I64 hi)
  (hn:n=parts.length) (hn2:n<=2000) (h:zfi S w' B k n A parts ps) :
  Tr.Ins w' (k+1) (.node kd set A n c ((List.range n).map ps) lo hi neg)/\Tr.From B (k+1) (.node kd set A n c ((List.range n).map ps) lo hi neg) /\
   (Tr.node kd set A n c ((List.range n).map ps) lo hi neg).strip (k+1)=.node kd set none n 0 (parts.map (S k)) lo hi neg:=by
 obtain ⟨h1,h2,h3⟩:=zsr (c:=c) (kd:=kd) (lo:=lo) (hi:=hi) (neg:=neg) hset hkd hlo hhi hn hn2 h.plain
 refine ⟨⟨h1,fun h0 b off e=>?_,fun p hp=>?_⟩,h2,h3⟩
 ·have h0':0<n:=h0
  obtain ⟨g,e',hb,hlt,hr,hp⟩:=h h0'
  have e2:A=some ⟨b,off,none⟩:=e
  rw[e2] at e'
  injection e' with e'
  injection e' with e1 e3
  subst e1;subst e3
  have:=(hr.there 0 h0' 0 (by omega)).2
  simpa using this
 ·have hp':p∈(List.range n).map ps:=hp
  rw[yN] at hp'
  obtain ⟨j,hj,rfl⟩:=hp'
  have hj':=List.mem_range.1 hj
  obtain ⟨g,e,hb,hlt,hr,hq⟩:=h (by omega)
  exact (hq j (by omega)).1.2
theorem zsB (S:Nat->Tr->Tr) (k c:Nat) (A:Option Addr) (w:World) :
  Calls Tryz.prog 119 #[.slice A 0 c,.func (.func 81) #[] #[]] w fun e w'=>e=.returned (.slice none 0 0)/\Below w.heap.size w w':=by
 go_enter Tryz.func119,Tryz.ntmps119
 go_wp2_with fail
 go_ret
 exact ⟨rfl,qT _ _⟩
theorem zp8 (S:Nat->Tr->Tr) (k c n b off:Nat) (parts:List Tr) (hF:zkZ 81 S k) (w:World) (hn:n=parts.length) (h0:0<n) (hn2:n<=2000) (hbw:b<w.heap.size)
  (hr:∀(j:Nat) (h:j<parts.length),w.rangeAt b (off+j*9) parts[j].cs) (hin:∀(j:Nat) (h:j<parts.length),Tr.In w k parts[j]) (hsl:∀(j:Nat) (h:j<parts.length),zeP k parts[j]) :
  Calls Tryz.prog 119 #[.slice (some ⟨b,off,none⟩) n c,.func (.func 81) #[] #[]] w (zjc S k n parts w):=by
 have HF:=zqh hF
 have HN:=zqh hn
 have HR:=zqh hr
 have HI:=zqh hin
 have HSl:=zqh hsl
 have hm:=zsq n (by omega)
 have hne1:¬(n:Int)=0:=by omega
 have hne:=(zab hne1).1
 have H0:Hid (zeE (w.alloc (.cells (madeCells Tr.blank.cs.toArray (n*9)) 49)) w.heap.size n (fun _=>Tr.blank)):=zqh (zpK w n)
 have HB0:Hid (Below w.heap.size w (w.alloc (.cells (madeCells Tr.blank.cs.toArray (n*9)) 49))):=zqh (zqb)
 clear hF hn hr hin hsl
 go_enter Tryz.func119,Tryz.ntmps119
 go_wp2_with fail
 clear hm
 generalize hw1:w.alloc (.cells (madeCells Tr.blank.cs.toArray (n*9)) 49)=w1 at H0 HB0 ⊢
 clear hw1
 go_loopw [16] (fun i wr=>∃(j:Nat) (ps:Nat->Tr),j<=n/\i=.int .i64 j/\Hid (zeE wr w.heap.size n ps)/\Hid (∀(p:Nat) (h:p<parts.length),p<j->Tr.Ins wr k (ps p)/\Tr.From (w.heap.size+1) k (ps p)/\(ps p).strip k=S k parts[p])/\Hid (Below w.heap.size w wr)) (fun i _=>n-(intOf i).toNat)
 case atStart=>exact ⟨0,fun _=>Tr.blank,qK _,rfl,H0,zqh (fun p _ hp=>absurd hp (jD _)),HB0⟩
 case round =>
  clear H0 HB0
  obtain ⟨j,ps,hj,rfl,HP,HD,HB⟩:=hrel
  have hgl:=HP.out.lt h0
  by_cases hlt:j<n
  ·have hlt':j<parts.length:=by rw[<-HN.out];exact hlt
   have HRj:=zqh (zaE (HR.out j hlt') hbw zqn HB.out)
   have HIj:=zqh (((HI.out j hlt').next HB.out).next (zbG wr parts[j]))
   have HSj:=zqh (HSl.out j hlt')
   have hA2:=zfE wr parts[j]
   obtain ⟨t,ht⟩:∃t,parts[j]=t:=⟨_,rfl⟩
   have HT:=zqh ht
   rw[ht] at HRj HIj HSj hA2
   clear ht
   have HBx:=zqh (zd8 HB.out t)
   have hjz:(0:Int)<=(j:Int):=by omega
   have hjn:(j:Int)<(n:Int):=by omega
   go_wp2_with (first
    |(refine wpList_load_mid rfl 49 _ rfl b (off+j*9) rfl t.cs _ HRj.out Tryz.underlying49 rfl (by rw[Tr.cs_length];kernel_rfl) ?_)
    |(refine qN rfl 49 _ _ rfl wr.heap.size t.cs.toArray rfl rfl 49 Tr.blank.cs.toArray (At.new _ _ _) (by kernel_rfl) rfl (Tr.one _) ?_;change Exit.then _ _ _ _ (zjT wr t))
    |(refine jU rfl 49 _ rfl wr.heap.size rfl 49 t.cs.toArray (0,0) _ hA2 Tryz.underlying49 rfl (by kernel_rfl) ?_) | fail)
   refine (HF.out t _ HIj.out HSj.out).mono ?_
   rintro e w3 ⟨t2,rfl,hin2,hfr2,hst2,hb3⟩
   have hsz:=ze3 wr t
   have HP3:=zqh ((HP.out.below (zbG wr t) hgl).below hb3 (by rw[hsz];omega))
   have HB3:=zqh (HBx.out.trans (hb3.mono HBx.out.size))
   have HD3:Hid (∀(p:Nat) (h:p<parts.length),p<j->Tr.Ins w3 k (ps p)/\Tr.From (w.heap.size+1) k (ps p)/\(ps p).strip k=S k parts[p]):=fun p hp hpj =>
    ⟨((HD.out p hp hpj).1.next (zbG wr t)).next hb3,(HD.out p hp hpj).2⟩
   have HI2:=zqh hin2
   have HF2:=zqh (Tr.From.lower (show w.heap.size+1<=(zjT wr t).heap.size by rw[hsz];omega) k t2 hfr2)
   have HS2:Hid (t2.strip k=S k parts[j]):=by rw[HT.out];exact hst2
   clear hin2 hfr2 hst2 hb3 hsz hA2
   have hone:=Tr.one t2
   have hth:w3.there w.heap.size (j*9) t2.cs.toArray.size:=HP3.out.there j hlt
   go_wp2_with (first
    |(with_reducible show wpList _ _ _ (⟨none,.store _ _ _,_,_,_,_⟩::_) _ _
      refine wpList_store_mid rfl 49 _ _ rfl w.heap.size (j*9) t2.cs.toArray rfl rfl hth (by kernel_rfl) hone ?_
      change wpList _ _ _ _ _ (zu5 w3 w.heap.size j t2)) | fail)
   have hO:=znF w3 w.heap.size j t2
   refine ⟨⟨j+1,fun p=>if p=j then t2 else ps p,by omega,by go_num,zqh (zpL HP3.out hlt t2),zqh (fun p hp hpj=>?_),zqh (HB3.out.trans (hO.below zqn))⟩,by simp[intOf];omega⟩
   by_cases e:p=j
   ·subst e
    simp only[if_true]
    exact ⟨HI2.out.only HF2.out hO (by omega),HF2.out,HS2.out⟩
   ·simp only[if_neg e]
    have hq:=HD3.out p hp (by omega)
    exact ⟨hq.1.only hq.2.1 hO (by omega),hq.2.1,hq.2.2⟩
  ·obtain rfl:j=n:=by omega
   go_wp2_with fail
   go_ret
   exact ⟨_,_,ps,rfl,fun e=>absurd e (by omega),fun _=>⟨w.heap.size,rfl,qL _,hgl,HP.out,fun p hp=>HD.out p hp (by rw[HN.out];exact hp)⟩,HB.out⟩
theorem zsC (S:Nat->Tr->Tr) (k:Nat) (hF:zkZ 81 S k) (t:Tr) (w:World) (h:Tr.In w (k+1) t) (hs:zeP (k+1) t) :
  Calls Tryz.prog 119 #[.slice t.addr t.parts.length t.cap,.func (.func 81) #[] #[]] w (zjc S k t.parts.length t.parts w):=by
 by_cases h0:t.parts.length=0
 ·rw[h0]
  refine (zsB S k t.cap t.addr w).mono ?_
  rintro e w' ⟨rfl,hb⟩
  exact ⟨none,0,fun _=>Tr.blank,rfl,fun _=>⟨rfl,rfl⟩,fun q=>absurd q (jM _),hb⟩
 ·obtain ⟨b,off,ha,hb,hr⟩:=h.2.2.1 (by rw[h.2.1.1];omega)
  rw[ha]
  exact zp8 S k t.cap t.parts.length b off t.parts hF w rfl (by omega) hs.1 hb hr h.2.2.2 (fun j hj=>hs.2 _ (qG hj))
theorem zkb (k:Nat) (ih:zkZ 81 (fun k t=>Tr.strip k t) k) (t:Tr) (w:World) (h:Tr.In w (k+1) t) (hs:zeP (k+1) t) :
  Calls Tryz.prog 81 #[.agg t.cs.toArray] w (zsA (fun k t=>Tr.strip k t) (k+1) t w):=by
 have hn:=h.2.1.1
 have HN:=zqh hn
 have HI:=zqh h
 have HIH:=zqh ih
 have HSl:=zqh hs
 obtain ⟨w2,hw2⟩:∃w2,w2=(w.alloc (.cells t.cs.toArray 49)).alloc (.cells #[.int .i64 0,.int .u64 0,.int .u64 0,.int .u64 0,.int .u64 0,.slice none 0 0,.int .i64 0,.int .i64 0,.bool false] 49):=⟨_,rfl⟩
 have HA0:Hid (At w2 w.heap.size 49 t.cs.toArray):=zqh (by rw[hw2];exact (At.new _ _ _).alloc _)
 have HZ0:Hid (At w2 (w.heap.size+1) 49 Tr.blank.cs.toArray):=zqh (by rw[hw2];exact zjx (w.alloc (.cells t.cs.toArray 49)) (w.heap.size+1) 49 (cs:=Tr.blank.cs.toArray) (by simp))
 have HB0:Hid (Below w.heap.size w w2):=zqh (by rw[hw2];exact ziR _ _)
 have HW2:=zqh hw2
 have hsz2:w2.heap.size=w.heap.size+2:=by rw[hw2];simp
 have HSz:=zqh hsz2
 obtain ⟨c0,c5,c6,c7,c8⟩:=At.tr_cell HA0.out
 rw[hw2] at c5
 rw[hn] at c5
 clear h hs ih hn hw2 hsz2 c0 c6 c7 c8
 go_enter Tryz.func81,Tryz.ntmps81
 go_wp2_with fail
 rw[<-HW2.out]
 refine (zsC (fun k t=>Tr.strip k t) k HIH.out t _ (HI.out.next HB0.out) HSl.out).mono ?_
 rintro e w3 ⟨A,c2,ps,rfl,hA0,hrow,hb3⟩
 have HA3:=zqh (HA0.out.below hb3 HA0.out.lt)
 have HZ3:=zqh (HZ0.out.below hb3 HZ0.out.lt)
 have HB3:=zqh (HB0.out.trans (hb3.mono HB0.out.size))
 have HR3:Hid (zfi (fun k t=>Tr.strip k t) w3 (w.heap.size+2) k t.parts.length A t.parts ps):=zqh (by rw[<-HSz.out];exact hrow)
 have HN0:=zqh hA0
 clear hb3 hrow hA0 c5
 have q5:=HA3.out.cell 5
 have f5:=HA3.out.free 5
 have c0:=HA3.out.cell 0
 have f0:=HA3.out.free 0
 have r0:t.cs.toArray[0]?=some (.int .i64 t.kind):=rfl
 have r5:t.cs.toArray[5]?=some (.slice t.addr t.n t.cap):=rfl
 rw[r5] at q5
 rw[r0] at c0
 clear r0 r5
 have hAu:At (w3.setCell ⟨w.heap.size,5,none⟩ (.slice A t.parts.length c2)) w.heap.size 49 (Tr.node t.kind t.set A t.parts.length c2 ((List.range t.parts.length).map (ps)) t.lo t.hi t.neg).cs.toArray:=HA3.out.set 5 _
 have hZu:At (w3.setCell ⟨w.heap.size,5,none⟩ (.slice A t.parts.length c2)) (w.heap.size+1) 49 Tr.blank.cs.toArray:=HZ3.out.other (p:=⟨w.heap.size,5,none⟩) (by dsimp only;omega) _
 have hRu:zfi (fun k t=>Tr.strip k t) (w3.setCell ⟨w.heap.size,5,none⟩ (.slice A t.parts.length c2)) (w.heap.size+2) k t.parts.length A (t.parts) (ps):=HR3.out.only ((zfN.refl w.heap.size w3).cell 5 _) (by omega)
 have hBu:Below w.heap.size w (w3.setCell ⟨w.heap.size,5,none⟩ (.slice A t.parts.length c2)):=HB3.out.setCell zqn _
 have hone:=Tr.one (Tr.node t.kind t.set A t.parts.length c2 ((List.range t.parts.length).map (ps)) t.lo t.hi t.neg)
 have HAu:=zqh hAu
 have HZu:=zqh hZu
 have HRu:=zqh hRu
 have HBu:=zqh hBu
 clear hAu hZu hRu hBu
 go_wp2_with (first
  |(refine jU rfl 49 _ rfl w.heap.size rfl 49 (Tr.node t.kind t.set A t.parts.length c2 ((List.range t.parts.length).map (ps)) t.lo t.hi t.neg).cs.toArray (0,0) _ HAu.out Tryz.underlying49 rfl (by kernel_rfl) ?_)
  |(with_reducible show wpList _ _ _ (⟨none,.store _ _ _,_,_,_,_⟩::_) _ _
    refine qN rfl 49 _ _ rfl (w.heap.size+1) (Tr.node t.kind t.set A t.parts.length c2 ((List.range t.parts.length).map (ps)) t.lo t.hi t.neg).cs.toArray rfl rfl 49 Tr.blank.cs.toArray HZu.out (by kernel_rfl) rfl hone ?_) | fail)
 have hO:zfN (w.heap.size+1) (w3.setCell ⟨w.heap.size,5,none⟩ (.slice A t.parts.length c2)) ((w3.setCell ⟨w.heap.size,5,none⟩ (.slice A t.parts.length c2)).setRow (w.heap.size+1) (Tr.node t.kind t.set A t.parts.length c2 ((List.range t.parts.length).map (ps)) t.lo t.hi t.neg).cs.toArray):=zfN.row _ _ _
 obtain ⟨m1,m2,m3⟩:=zp7 (c:=c2) (lo:=t.lo) (hi:=t.hi) (neg:=t.neg) (kd:=t.kind) HI.out.1.1 HI.out.1.2.1 HI.out.1.2.2.1 HI.out.1.2.2.2 (by rfl) HSl.out.1 (HRu.out.only hO (by omega))
 exact yD (results_cell_row Tryz.results81 _ _ (w.heap.size+1) 49 (Tr.node t.kind t.set A t.parts.length c2 ((List.range t.parts.length).map (ps)) t.lo t.hi t.neg).cs.toArray (0,0) _ rfl (HZu.out.row _) Tryz.underlying49 rfl (by kernel_rfl)) rfl ⟨_,rfl,m1,m2.lower (by omega),m3.trans (by rfl),HBu.out.trans (hO.below (by omega))⟩
theorem zq7:∀k,zkZ 81 (fun k t=>Tr.strip k t) k
 | 0=>fun _ _ h=>h.elim
 | k+1=>fun t w h hs=>zkb k (zq7 k) t w h hs
end

section
open Go.RowKit
def Tr.Lv:Nat->Tr->Prop
 | 0,_=>False
 | k+1,t=>∀p∈t.parts,Tr.Lv k p
theorem Tr.In.lv {w:World}:∀(k:Nat) (t:Tr),Tr.In w k t->Tr.Lv k t
 | 0,_,h=>h.elim
 | k+1,t,h=>fun p hp=>by
  obtain ⟨j,hj,rfl⟩:=yT hp
  exact Tr.In.lv k _ (h.2.2.2 j hj)
theorem Tr.Lv.up:∀(k:Nat) (t:Tr),Tr.Lv k t->Tr.Lv (k+1) t
 | 0,_,h=>h.elim
 | k+1,t,h=>fun p hp=>Tr.Lv.up k p (h p hp)
theorem znS {α:Type} {f g:α->Bool} {l:List α} (h:∀p∈l,f p=g p):l.all f=l.all g:=by
 induction l with
 | nil=>rfl
 | cons a r ih=>rw[yR,yR,h a (by simp),ih (fun p hp=>h p (qX _ hp))]
theorem zhI:∀(k:Nat) (t:Tr),Tr.Lv k t->zah (k+1) t=zah k t
 | 0,_,h=>h.elim
 | k+1,t,h=>by
  show (zch t&&t.parts.all (zah (k+1)))=(zch t&&t.parts.all (zah k))
  rw[znS (fun p hp=>zhI k p (h p hp))]
theorem zec {α β:Type} {f g:α->β} {l:List α} (h:∀p∈l,f p=g p):l.map f=l.map g:=gL h
theorem zk5:∀(k:Nat) (m:Int) (t:Tr),Tr.Lv k t->zbj (k+1) m t=zbj k m t
 | 0,_,_,h=>h.elim
 | k+1,m,t,h=>by
  show (if m<1 then 1 else 1+zgd (t.parts.map (zbj (k+1) (m-1))))=(if m<1 then 1 else 1+zgd (t.parts.map (zbj k (m-1))))
  rw[zec (fun p hp=>zk5 k (m-1) p (h p hp))]
theorem zjd (k:Nat) (t:Tr) (hh:∀p∈t.parts,zam (k+1) p=zam k p) (j:Nat):zb6 (k+1) t j=zb6 k t j:=by
 unfold zb6
 rw[zec (fun p hp=>hh p (qP hp))]
theorem zk6:∀(k:Nat) (t:Tr),Tr.Lv k t->zam (k+1) t=zam k t
 | 0,_,h=>h.elim
 | k+1,t,h=>by
  have hh:∀p∈t.parts,zam (k+1) p=zam k p:=fun p hp=>zk6 k p (h p hp)
  by_cases h7:t.kind=7
  ·rw[<-zdG (k+1) t h7,<-zdG k t h7,zjd k t hh]
  ·rw[<-zdH (k+1) t h7,<-zdH k t h7,zjd k t hh]
theorem zkc {k:Nat} {t:Tr} (h:Tr.Lv k t):zaH (k+1) t=zaH k t:=by
 unfold zaH
 rw[zk5 k 40 t h,zhI k t h,zk6 k t h]
theorem zdx {k:Nat} {t:Tr} (h:Tr.Lv k t):∀d,zaH (k+d) t=zaH k t/\Tr.Lv (k+d) t
 | 0=>⟨rfl,h⟩
 | d+1=>by
  have ih:=zdx h d
  exact ⟨(zkc ih.2).trans ih.1,Tr.Lv.up _ _ ih.2⟩
def zgX (t:Tr):Prop:=∃k,Tr.Lv k t/\zaH k t=true
theorem zgX.at {t:Tr} (h:zgX t) {k:Nat} (hk:Tr.Lv k t):zaH k t=true:=by
 obtain ⟨m,h1,h2⟩:=h
 rcases Nat.le_total k m with q | q
 ·have:=zdx hk (m-k)
  rw[show k+(m-k)=m by omega] at this
  rw[<-this.1];exact h2
 ·have:=zdx h1 (k-m)
  rw[show m+(k-m)=k by omega] at this
  rw[this.1];exact h2
theorem zfj {k:Nat} {t:Tr} (h:zaH k t=true):zbj k 40 t<=40:=by
 unfold zaH at h
 rw[qR] at h
 have:=jB h.1
 omega
theorem znT {w:World}:∀(k m:Nat) (t:Tr),Tr.In w k t->zbj k m t<=m->Tr.In w m t
 | 0,_,_,h,_=>h.elim
 | k+1,m,t,h,hd=>by
  have h1:1<=m:=by
   have hd':(if (m:Int)<1 then (1:Int) else 1+zgd (t.parts.map (zbj k ((m:Int)-1))))<=m:=hd
   split at hd'
   ·omega
   ·have:=zjy (t.parts.map (zbj k ((m:Int)-1)));omega
  obtain ⟨m',rfl⟩:∃m',m=m'+1:=⟨m-1,by omega⟩
  refine ⟨h.1,h.2.1,h.2.2.1,fun j hj=>znT k m' _ (h.2.2.2 j hj) ?_⟩
  have:=(ziF (k:=k) (j:=j) (m:=((m'+1:Nat):Int)) (t:=t) hd hj).2
  rw[show ((m'+1:Nat):Int)-1=(m':Int) by omega] at this
  exact this
theorem zp9:∀(k:Nat) (t:Tr),Tr.Lv k t->1<=zam k t
 | 0,_,h=>h.elim
 | k+1,t,h=>by
  have hx:0<=(if t.kind=7 then zb3 (t.parts.map (zam k))*zaC t.lo t.hi else zb3 (t.parts.map (zam k))):=by
   have h0:0<=zb3 (t.parts.map (zam k)):=by
    have:=zeU k t t.parts.length
    unfold zb6 at this
    rwa [qQ] at this
   split
   ·exact Int.mul_nonneg h0 (by unfold zaC zbs zbr;repeat' split<;>omega)
   ·exact h0
  show 1<=zal (_+1)
  unfold zal
  split<;>omega
theorem zje (lo hi:Int):1<=zaC lo hi:=by unfold zaC zbs zbr;repeat' split<;>omega
theorem zqa {k:Nat} {t:Tr} (h:zam (k+1) t<=1000):zb3 (t.parts.map (zam k))<=999:=by
 have h0:0<=zb3 (t.parts.map (zam k)):=by
  have:=zeU k t t.parts.length
  unfold zb6 at this
  rwa [qQ] at this
 have h':zal ((if t.kind=7 then zb3 (t.parts.map (zam k))*zaC t.lo t.hi else zb3 (t.parts.map (zam k)))+1)<=1000:=h
 have hc:∀x:Int,zal (x+1)<=1000->x<=999:=fun x hx=>by unfold zal at hx;split at hx<;>omega
 have h2:=hc _ h'
 split at h2
 ·have hm:zb3 (t.parts.map (zam k))*1<=zb3 (t.parts.map (zam k))*zaC t.lo t.hi:=Int.mul_le_mul_of_nonneg_left (zje _ _) h0
  rw[Int.mul_one] at hm
  omega
 ·omega
end
end Go.Proofs.YtdmodhnhldbpnaaGreat
