/- Joined: GnJoined, NormMemM, Seen, Known. -/
import Derived.Test.YtdmodhnhldbpnaaGreatMak
import Derived.Test.YtdmodhnhldbpnaaGreatMag
import Derived.Test.YtdmodhnhldbpnaaGreatMad
import Derived.Test.YtdmodhnhldbpnaaGreatMah
import Derived.Test.YtdmodhnhldbpnaaGreatMaf
import Derived.Test.YtdmodhnhldbpnaaGreatAid
/- norm.joined of any nodes of an arena that may get full. -/
set_option linter.unusedSimpArgs false
set_option linter.unusedVariables false
set_option maxHeartbeats 16000000
set_option maxRecDepth 100000
namespace Go.Proofs.YtdmodhnhldbpnaaGreat
section
open Go.RowKit Go.Shelf
attribute [local go_sem] Oper.semAt_some
def zda (ns:List Nd) (k:Int) (l:List Int) (ms:List Nd) (r:Int):Prop:=∀(L bits:List Nat) (i j:Nat),Byt L->i<=j->j<=L.length->zai L bits ms r i j=if k=4 then l.any (fun x=>zai L bits ns x i j) else l.all (fun x=>zai L bits ns x i j)
theorem zrN (ns:List Nd) (k x:Int):zda ns k [x] ns x:=fun L bits i j _ _ _=>by
 by_cases h:k=4
 ·rw[if_pos h];simp
 ·rw[if_neg h];simp
theorem zrO {l m:List Int} (h:∀y,y∈l↔y∈m) (f:Int->Bool):l.any f=m.any f:=by
 rw[qZ,jI,jI]
 exact ⟨fun ⟨y,a,b⟩=>⟨y,(h y).1 a,b⟩,fun ⟨y,a,b⟩=>⟨y,(h y).2 a,b⟩⟩
theorem zrP {l m:List Int} (h:∀y,y∈l↔y∈m) (f:Int->Bool):l.all f=m.all f:=by
 rw[qZ,jJ,jJ]
 exact ⟨fun a y hy=>a y ((h y).2 hy),fun a y hy=>a y ((h y).1 hy)⟩
theorem zda.perm {ns ms:List Nd} {k r:Int} {l m:List Int} (h:zda ns k l ms r) (hm:∀y,y∈l↔y∈m):zda ns k m ms r:=fun L bits i j h0 h1 h2=>by
 rw[h L bits i j h0 h1 h2,zrO hm,zrP hm]
theorem zpq {ns m0 m2:List Nd} {k x r r2:Int} {l:List Int} (hk:k=4\/k=5) (hf:zaA ns) (hfm:zaA ((ns++m0)++m2)) (hx:zac ns x) (hr:zac (ns++m0) r) (h2:zac ((ns++m0)++m2) r2) (hn:zaQ ((ns++m0)++m2) r2.toNat=⟨k,zbn,x,r,false⟩) (h:zda ns k l (ns++m0) r):zda ns k (x::l) ((ns++m0)++m2) r2:=fun L bits i j hL h3 h4=>by
 have k3:kd ((ns++m0)++m2) r2=k:=by unfold kd;rw[hn]
 have ka':ka ((ns++m0)++m2) r2=x:=by unfold ka;rw[hn]
 have kb':kb ((ns++m0)++m2) r2=r:=by unfold kb;rw[hn]
 have e1:zai L bits ((ns++m0)++m2) x=zai L bits ns x:=by rw[zav L bits m2 (hx.up m0),zav L bits m0 hx]
 have e2:zai L bits ((ns++m0)++m2) r i j=_:=(congrFun (congrFun (zav L bits m2 hr) i) j).trans (h L bits i j hL h3 h4)
 rcases hk with rfl | rfl
 ·rw[ztd hfm h2 k3,ka',kb']
  show (zai L bits ((ns++m0)++m2) x i j||zai L bits ((ns++m0)++m2) r i j)=_
  rw[e1,e2,if_pos rfl,if_pos rfl,xQ]
 ·rw[zlD hfm h2 k3,ka',kb']
  show (zai L bits ((ns++m0)++m2) x i j&&zai L bits ((ns++m0)++m2) r i j)=_
  rw[e1,e2,if_neg (by decide),if_neg (by decide),yR]
theorem zpr {k x:Int} {n:Nat} (hk:k=4\/k=5):(Nd.mk k zbn x (-1) false).right n=false:=by
 unfold Nd.right aIn
 rcases hk with rfl | rfl<;>simp
theorem zno {k r:Int} {n:Nat} (hk:k=4\/k=5):(Nd.mk k zbn (-1) r false).right n=false:=by
 unfold Nd.right aIn
 rcases hk with rfl | rfl<;>simp
theorem zfH {L:List Int} {y:Int}:y∈sorted L↔y∈L:=(List.mergeSort_perm L _).mem_iff
theorem znp {l:List Int} {p:Nat} (h:l.length=p+1):l.drop p=[l[p]'(by omega)]:=by
 rw[yU (by omega),List.drop_of_length_le (by omega)]
section
variable {AA:World->Value->List Nd->(Nat->Prop)->Prop}
theorem zrQ (S:ArenaAny AA) {w:World} {a:Value} {ns:List Nd} {F:Nat->Prop} (x:Nd) (h:AA w a ns F) (hx:zbQ x) :
  Calls Tryz.prog 57 #[a,.agg x.cs.toArray] w (Got AA w a ns F fun ms r=>x.right ns.length=true/\zaQ ms r.toNat=x):=by
 by_cases hr:x.right ns.length=true
 ·exact (zqQ S x h hx hr).mono (fun _ _ g=>g.mono (fun more r q _ _=>⟨hr,q⟩) S.toArenaMid)
 ·refine (zqN S.toArenaMid x h hx (Bool.eq_false_iff.2 hr)).mono ?_
  rintro e w1 ⟨rfl,hb⟩
  exact Got.no S.toArenaMid h hb
def zjZ (AA:World->Value->List Nd->(Nat->Prop)->Prop) (w:World) (a v:Value) (ns:List Nd) (F:Nat->Prop) (k:Int) (l:List Int) (e:Ending) (w':World):Prop :=
 ∃(r:Int) (more:List Nd) (F':Nat->Prop),e=.returned (.int .i64 r)/\AA w' a (ns++more) F'/\(∀b,F' b->F b\/w.heap.size<=b)/\OffF (fun b=>F b\/v.ownBlock=some b) w w'/\(r=-1\/(zac (ns++more) r/\zda ns k l (ns++more) r/\∀x∈l,zac ns x))
structure JIg (AB:World->Value->List Nd->(Nat->Prop)->Prop) (w:World) (a:Value) (ns:List Nd) (F:Nat->Prop) (k:Int) (sl zs:List Int) (p B g bi:Nat) (pre:List (Nat×Num)) (W:World) (ns':List Nd) (F':Nat->Prop) (r:Int):Prop where
 ab:AB W a ns' F'
 low:∀b,F' b->F b\/B<=b
 off:OffF (fun b=>F b\/g=b) w W
 int:I64 r
 grow:∃more,ns'=ns++more
 box:At W w.heap.size 26 #[a]
 kind:At W (w.heap.size+1) 3 #[.int .i64 k]
 id:At W bi 3 #[.int .i64 r]
 size:B<=W.heap.size
 right:pre=zdO zs pre.length->(r=-1\/(zac ns' r/\zda ns k (sl.drop (p-pre.length)) ns' r/\∀x∈sl.drop (p-pre.length),zac ns x))
theorem zib (S:zaI AA) {w:World} {a v:Value} {ns:List Nd} {F:Nat->Prop} {B0:Nat} (k:Int) (hk:k=4\/k=5) (l:List Int) (h:AA w a ns F) (hv:zas w B0 v l) (h0:0<l.length) (hvF:∀b,v.ownBlock=some b->¬F b) (hin:∀x∈l,zac ns x\/x=-1) (hns:0<ns.length) (hl:l.length<=100000) :
  Calls Tryz.prog 128 #[a,.int .i64 k,v] w (zjZ AA w a v ns F k l):=by
 obtain ⟨p,hp⟩:∃p,l.length=p+1:=⟨l.length-1,by omega⟩
 have hsl:(sorted l).length=p+1:=by unfold sorted;rw[List.length_mergeSort,hp]
 obtain ⟨g,cap,ev,_⟩:=hv.form h0
 rw[hp] at ev
 subst ev
 obtain ⟨w2,hw2⟩:∃w2,w2=(w.alloc (.cells #[a] 26)).alloc (.cells #[.int .i64 k] 3):=⟨_,rfl⟩
 have hB2:Below w.heap.size w w2:=by rw[hw2];exact (zqb).alloc (by simp) _
 have hs2:w2.heap.size=w.heap.size+2:=by rw[hw2];simp
 have HSo:=zqh (zuX (hv.next hB2) h0 (by omega))
 have HW2:=zqh hw2
 rw[hw2] at HSo
 have HA:=zqh h
 have HV:=zqh hv
 have HvF:=zqh hvF
 have hin2:∀x∈sorted l,zac ns x\/x=-1:=fun x hx=>hin x (zfH.1 hx)
 have HG:=zqh hin2
 have HMx:=zqh (S.max h)
 have HFi:=zqh (S.fine h)
 have HSl:=zqh hsl
 have HB2:=zqh hB2
 have HS2:=zqh hs2
 have HK:=zqh hk
 have HP:=zqh hp
 obtain ⟨gp,rfl⟩:=S.ptr h
 have hpb:p<=100000:=by omega
 clear h hv hvF hin hin2 hl hsl hB2 hw2 hs2 hk h0
 have hpz:(0:Int)<=(p:Int):=by omega
 have hpw:IntKind.i64.wrap ((p:Int)+1-1)=(p:Int):=by rw[xX,xN _ (by omega)];omega
 refine (callsIn_wide (n:=6)).1 ?_
 refine callsIn_of_wp_marks Tryz.func128 rfl trivial ?_ rfl
 simp only[Tryz.ntmps128,qO,jX,gD,Nat.reduceAdd,Nat.reduceSub,gJ,gI,List.push_toArray,gM,yW,List.cons_append]
 gi_wp2_with fail
 refine ⟨trivial,?_⟩
 refine (callsIn_wide.2 HSo.out).mono ?_
 rintro e w3 ⟨rfl,hr3,hg3⟩
 have hr3:zas w3 B0 (.slice (some ⟨g,0,none⟩) (p+1) cap) (sorted l):=hr3
 rw[<-HW2.out] at hg3
 have hg3:w2.grownBy w3 (some g):=hg3
 obtain ⟨g',cap',eg,hcs⟩:=hr3.form (by rw[HSl.out];omega)
 obtain rfl:g=g':=by
  injection eg with eg _ _
  injection eg with eg
  injection eg
 clear eg
 have hx3:=hcs p (by rw[HSl.out];omega)
 have HGs:=zqh (hr3.lt (c:=g) rfl)
 have HGv:=zqh (HV.out.lt (c:=g) rfl)
 obtain ⟨x0,hx0⟩:∃x0,x0=(sorted l)[p]'(by rw[HSl.out];omega):=⟨_,rfl⟩
 rw[<-hx0] at hx3
 have HX0:=zqh hx0
 have HR3:=zqh hr3
 have HCs:=zqh hcs
 have HG3:=zqh hg3
 have hcp:(p:Int)<=(cap:Int):=by
  obtain ⟨_,q⟩:=hr3
  rcases q with ⟨q,_⟩ | ⟨_,_,_,q,_,_,q1,_⟩
  ·cases q
  ·injection q with q1' q2' q3'
   rw[HSl.out,<-q3'] at q1
   omega
 have hpn:(p:Int)<(p:Int)+1:=by omega
 obtain ⟨w5,hw5⟩:∃w5,w5=(w3.alloc (.cells #[.int .i64 x0] 3)).alloc (.cells #[.slice (some ⟨g,0,none⟩) p cap] 80):=⟨_,rfl⟩
 have HW5:=zqh hw5
 have HBk:Hid (CallsIn Fence.wide 5 Tryz.prog 122 #[.slice (some ⟨g,0,none⟩) p cap] (w3.alloc (.cells #[.int .i64 x0] 3)) fun e w'=>e=.returned (.func (.func 162) #[] #[.pointer (some ⟨w3.heap.size+1,0,none⟩)])/\w'=w5):=zqh (by
  have:=znn Fence.wide 5 trivial rfl (.slice (some ⟨g,0,none⟩) p cap) (some ⟨g,0,none⟩) p cap rfl (w3.alloc (.cells #[.int .i64 x0] 3))
  rw[qV] at this
  rw[hw5];exact this)
 clear hr3 hcs hg3 hx0 hw5
 gi_wp2_with fail
 refine ⟨trivial,?_⟩
 refine HBk.out.mono ?_
 rintro e w6 ⟨rfl,rfl⟩
 gi_wp2_with fail
 have HSz:Hid (w2.heap.size<=w3.heap.size):=zqh HG3.out.size
 have hs5:w6.heap.size=w3.heap.size+2:=by rw[HW5.out];simp
 have HS5:=zqh hs5
 obtain ⟨zs,hzs⟩:∃zs,zs=(sorted l).take p:=⟨_,rfl⟩
 have hzl:zs.length=p:=by rw[hzs,jR,HSl.out];omega
 have hzj:∀j (hj:j<p),zs[j]?.getD 0=(sorted l)[j]'(by rw[HSl.out];omega):=fun j hj=>by
  have e:zs[j]?=(sorted l)[j]?:=by rw[hzs];exact jV hj
  rw[e,qI (by rw[HSl.out];omega)];rfl
 have hzI:∀j,j<zs.length->I64 (zs[j]?.getD 0):=fun j hj=>by
  rw[hzl] at hj
  rw[hzj j hj]
  have h1:=HG.out _ (qG (show j<(sorted l).length by rw[HSl.out];omega))
  have h2:=HMx.out
  rcases h1 with this | h1
  ·unfold zac at this
   unfold I64
   omega
  ·rw[h1];unfold I64;omega
 have hkI:I64 k:=by have:=HK.out;unfold I64;omega
 obtain ⟨AB,m,SB,hAB,hm,hup,hmB⟩:=S.part HA.out hns
 have HFl:Hid (∀b,F b->b<w.heap.size):=zqh (SB.low hAB)
 have HGn:Hid (¬F g):=zqh (HvF.out g rfl)
 have hat:∀b,b<w2.heap.size->b≠g->w6.heap[b]?=w2.heap[b]?:=fun b hb hn=>by
  rw[HW5.out]
  rw[yL _ _ _ (by rw[qV];have:=HSz.out;omega),yL _ _ _ (by have:=HSz.out;omega)]
  exact HG3.out.block b hb (fun e=>by injection e with e;exact hn e)
 have hAB6:AB w6 (.pointer (some ⟨gp,0,none⟩)) ns F:=SB.keep hAB (fun b hb=>by
  have h1:=HFl.out b hb
  rw[hat b (by have:=HS2.out;omega) (fun e=>HGn.out (by rw[<-e];exact hb))]
  exact HB2.out.block b h1)
 have hO6:OffF (fun b=>F b\/g=b) w w6:=by
  rw[HW5.out]
  exact ((((OffF.of HB2.out).grown HG3.out (fun b e=>by injection e with e;exact Or.inl (Or.inr e))).then (zqb)).then (zqb))
 have hbox:At w6 w.heap.size 26 #[.pointer (some ⟨gp,0,none⟩)]:=by
  refine (hat _ (by have:=HS2.out;omega) (fun e=>by have:=HGv.out;omega)).trans ?_
  rw[HW2.out];exact (At.new w _ _).alloc _
 have hknd:At w6 (w.heap.size+1) 3 #[.int .i64 k]:=by
  refine (hat _ (by have:=HS2.out;omega) (fun e=>by have:=HGv.out;omega)).trans ?_
  have:=At.new (w.alloc (.cells #[.pointer (some ⟨gp,0,none⟩)] 26)) 3 #[.int .i64 k]
  rw[qV] at this
  rw[HW2.out];exact this
 have hid6:At w6 w3.heap.size 3 #[.int .i64 x0]:=by rw[HW5.out];exact (At.new _ _ _).alloc _
 have hx0I:I64 x0:=by
  have h1:=HG.out x0 (by rw[HX0.out];exact qG _)
  have h2:=HMx.out
  rcases h1 with this | h1
  ·unfold zac at this
   unfold I64
   omega
  ·rw[h1];unfold I64;omega
 have hJ0:JIg AB w (.pointer (some ⟨gp,0,none⟩)) ns F k (sorted l) zs p w6.heap.size g w3.heap.size [] w6 ns F x0 :=
  ⟨hAB6,fun b q=>Or.inl q,hO6,hx0I,⟨[],by rw[jA]⟩,hbox,hknd,hid6,qL _,fun _=>by
   have hxm:x0∈sorted l:=by rw[HX0.out];exact qG _
   rcases HG.out x0 hxm with hxi | hxi
   ·right
    have e:(sorted l).drop p=[x0]:=by rw[HX0.out];exact znp (by rw[HSl.out])
    rw[gD,Nat.sub_zero,e]
    exact ⟨hxi,zrN ns k x0,fun y hy=>by rw[List.mem_singleton.1 hy];exact hxi⟩
   ·exact Or.inl hxi⟩
 have hgs:g<w6.heap.size:=by have:=HGs.out;omega
 have hBs:w6.cell? ⟨w3.heap.size+1,0,none⟩=some (.slice (some ⟨g,0,none⟩) zs.length cap):=by
  have:=(At.new (w3.alloc (.cells #[.int .i64 x0] 3)) 80 #[.slice (some ⟨g,0,none⟩) p cap]).cell 0
  rw[qV] at this
  rw[HW5.out,hzl];exact this
 have hcz:∀j,j<zs.length->w6.cell? ⟨g,j,none⟩=some (.int .i64 (zs[j]?.getD 0)):=fun j hj=>by
  rw[hzl] at hj
  rw[hzj j hj,HW5.out]
  have:=HCs.out j (by rw[HSl.out];omega)
  exact (yA (a:=⟨g,j,none⟩) ((yL _ _ g (by rw[qV];have:=HGs.out;omega)).trans (yL _ _ g (by have:=HGs.out;omega)))).trans this
 have HJ0:=zqh hJ0
 have hI:OwnFrom w6.heap.size (fun (pre:List (Nat×Num)) W=>∃ns' F' r,JIg AB w (.pointer (some ⟨gp,0,none⟩)) ns F k (sorted l) zs p w6.heap.size g w3.heap.size pre W ns' F' r):=fun pre X Y row hs hg hr=>by
  obtain ⟨ns',F',r,j⟩:=hs
  have hrc:∀r,row=some r->∃o:Obj,X.heap[r]?=some o/\o.isCells=false:=fun r e=>(hr r e).2
  refine ⟨ns',F',r,SB.keep j.ab (fun b hb=>hg.block b (SB.low j.ab b hb) (fun e=>?_)),j.low,j.off.grown hg (fun b e=>Or.inr ?_),j.int,j.grow,zgI j.box hg hrc,zgI j.kind hg hrc,zgI j.id hg hrc,qH j.size hg.size,j.right⟩
  ·obtain ⟨h1,o,h2,h3⟩:=hr b e.symm
   have:=hmB j.ab hb h2 (fun cs t p q=>by rw[q] at h3;cases h3)
   have h4:=HB2.out.size
   have h5:=HSz.out
   omega
  ·obtain ⟨h1,_⟩:=hr b e
   have h4:=HB2.out.size
   have h5:=HSz.out
   omega
 refine wpIn_rangeFunc_ownG (α:=Nat×Num) rfl (by omega) (gf:=162) (lb:=#[.pointer (some ⟨w3.heap.size+1,0,none⟩)]) rfl trivial (enters_of Tryz.func162 (by kernel_rfl) rfl)
  (back_stops Fence.wide _ trivial rfl (by omega) (w3.heap.size+1) g cap zs (by omega) hzI w6 (by omega) hgs hBs hcz) (fun h k=>h.trans k)
  (fun W lw o o' hl ho _ _=>⟨World.putObj_heap_other (by omega),World.putObj_heap_other (by omega)⟩) (qT _ _) (fun _=>rfl)
  (fun pre W=>∃ns' F' r,JIg AB w (.pointer (some ⟨gp,0,none⟩)) ns F k (sorted l) zs p w6.heap.size g w3.heap.size pre W ns' F' r)
  (fun _ _ _=>False) hI (fun _ _ _ _ _ hs _ _=>hs) ⟨_,_,_,hJ0⟩
  (fun x=>{tmps:=#[.pointer (some ⟨gp,0,none⟩),.int .i64 k,.slice (some ⟨g,0,none⟩) (p+1) cap,.pointer (some ⟨w.heap.size,0,none⟩),.pointer (some ⟨w.heap.size+1,0,none⟩),undef,.int .i64 0,.int .i64 p,.pointer (some ⟨w3.heap.size,0,none⟩),undef,.int .i64 x.2.1,.slice (some ⟨g,0,none⟩) (p+1) cap,.tuple #[],.slice (some ⟨g,0,none⟩) (p+1) cap,.int .i64 (p+1),.int .i64 p,.slice (some ⟨g,0,none⟩) (p+1) cap,.int .i64 p,.pointer (some ⟨g,p,none⟩),.int .i64 x0,.slice (some ⟨g,0,none⟩) (p+1) cap,.int .i64 p,.slice (some ⟨g,0,none⟩) p cap,.func (.func 162) #[] #[.pointer (some ⟨w3.heap.size+1,0,none⟩)],.int .i64 (x.1:Int),.int .i64 x.2.1,undef,undef,undef,undef,undef,undef,undef],defers:=[]}) ?assign ?body ?done ?stop
 case assign =>
  intro l x W K hK
  gi_wp2
  exact hK
 case stop =>
  rintro D c pre W _ _ h _
  exact h.elim
 case done =>
  rintro D ys W hD rfl ⟨ns',F',r,j⟩ hDD
  have c0:=j.id.cell 0
  have hst:=j.right (by rw[zdu])
  rw[zdu,hzl,kK,List.drop_zero] at hst
  obtain ⟨more,hmore⟩:=j.grow
  have hput:zjZ AA w (.pointer (some ⟨gp,0,none⟩)) (.slice (some ⟨g,0,none⟩) (p+1) cap) ns F k l (.returned (.int .i64 r)) (W.putObj D (.deferred none)):=by
   have hgr:=grownBy_putObj' W D (.deferred none)
   have hw6:w.heap.size<=w6.heap.size:=by have:=HB2.out.size;have:=HSz.out;omega
   have hAAd:AA (W.putObj D (.deferred none)) (.pointer (some ⟨gp,0,none⟩)) ns' F':=hup (SB.keep j.ab (fun b hb=>hgr.block b (SB.low j.ab b hb) (fun e=>by
    injection e with e
    have h4:=hmB j.ab hb (by rw[e];exact hDD) (fun cs t p q=>by cases q)
    omega)))
   rw[hmore] at hAAd hst
   refine ⟨r,more,F',rfl,hAAd,fun b q=>?_,?_,hst.imp id (fun z=>⟨z.1,z.2.1.perm (fun y=>zfH),fun y hy=>z.2.2 y (zfH.2 hy)⟩)⟩
   ·rcases j.low b q with q | q
    ·exact Or.inl q
    ·exact Or.inr (by omega)
   ·have:=j.off.grown hgr (fun b e=>Or.inr (by injection e with e;omega))
    exact ⟨this.os,this.tape,this.output,this.size,fun b hb hn=>this.block b hb (fun q=>hn (by
     rcases q with q | q
     ·exact Or.inl q
     ·exact Or.inr (by rw[<-q];rfl)))⟩
  have HPu:=zqh hput
  clear hput hst
  gi_wp2
  refine ⟨by simp,.inl ⟨_,_,rfl,run_takeDeferred hDD,?_⟩⟩
  refine ⟨_,results_tmp rfl _ _ _,?_⟩
  exact HPu.out
 case body =>
  rintro lw pre ⟨q,x,hxI⟩ W ⟨ns',F',r,j⟩ hlen
  rw[hzl] at hlen
  have c0:=j.box.cell 0
  have c1:=j.kind.cell 0
  have c2:=j.id.cell 0
  have f2:=j.id.free 0
  have hgrow:=j.grow
  have hpl:=HP.out
  have HPu:=zqh (zrQ SB (Nd.mk k zbn x r false) j.ab (zcb _ _ _ _ hkI hxI j.int))
  have hmxB:=SB.max j.ab
  gi_wp2_with fail
  refine ⟨trivial,?_⟩
  refine (CallsIn.inRound lw (callsIn_wide.2 HPu.out)).mono ?_
  rintro e W6 ⟨r2,more2,F2,rfl,hA6,hF6,ho6,hr6⟩
  have hmxC:=SB.max hA6
  have HFc:=zqh (SB.fine hA6)
  have hq6:W.heap.size<=W6.heap.size:=ho6.size
  have hb6:∀b,b<W.heap.size->¬F' b->W6.heap[b]?=W.heap[b]?:=ho6.block
  have hnF:∀b,b<w6.heap.size->¬F b->¬F' b:=fun b h1 h2 q=>by
   rcases j.low b q with q | q
   ·exact h2 q
   ·omega
  have hw6:w.heap.size<=w6.heap.size:=by have:=HB2.out.size;have:=HSz.out;omega
  have hnew:∀b,w.heap.size<=b->¬F b:=fun b h1 q=>by have:=HFl.out b q;omega
  have hidW:At W6 w3.heap.size 3 #[.int .i64 r]:=(hb6 _ j.id.lt (hnF _ (by omega) (hnew _ (by have:=HSz.out;have:=HS2.out;omega)))).trans j.id
  have hboxW:At W6 w.heap.size 26 #[.pointer (some ⟨gp,0,none⟩)]:=(hb6 _ j.box.lt (hnF _ (by have:=HSz.out;have:=HS2.out;omega) (hnew _ zqn))).trans j.box
  have hkW:At W6 (w.heap.size+1) 3 #[.int .i64 k]:=(hb6 _ j.kind.lt (hnF _ (by have:=HSz.out;have:=HS2.out;omega) (hnew _ (by omega)))).trans j.kind
  have c6:=hidW.cell 0
  have f6:=hidW.free 0
  have hrI:I64 r2:=by
   rcases hr6 with rfl | ⟨q,_⟩
   ·unfold I64;omega
   ·unfold zac at q;unfold I64;omega
  have hgrow2:∃more,ns'++more2=ns++more:=by
   obtain ⟨m,e⟩:=hgrow
   exact ⟨m++more2,by rw[e,jQ]⟩
  have HM:Hid (w3.heap.size≠w.heap.size/\w3.heap.size≠w.heap.size+1/\w3.heap.size≠w3.heap.size+1/\w3.heap.size≠g/\w3.heap.size<w6.heap.size):=zqh (by have:=HSz.out;have:=HS2.out;have:=HGs.out;omega)
  have hbnd:∀b,w3.heap.size≠b->(W6.setCell ⟨w3.heap.size,0,none⟩ (.int .i64 r2)).heap[b]?=W6.heap[b]?:=fun b hb=>jL W6 ⟨w3.heap.size,0,none⟩ _ b (fun e=>hb e.symm)
  have hF2n:¬F2 w3.heap.size:=fun z=>by
   rcases hF6 _ z with z | z
   ·exact hnF _ HM.out.2.2.2.2 (hnew _ (by have:=HSz.out;have:=HS2.out;omega)) z
   ·have:=j.size;have:=HM.out.2.2.2.2;omega
  have HFin:Hid (KeepsFrom w6.heap.size W (W6.setCell ⟨w3.heap.size,0,none⟩ (.int .i64 r2))/\zbg (w3.heap.size+1) g W (W6.setCell ⟨w3.heap.size,0,none⟩ (.int .i64 r2))/\JIg AB w (.pointer (some ⟨gp,0,none⟩)) ns F k (sorted l) zs p w6.heap.size g w3.heap.size (pre++[(q,(⟨x,hxI⟩:Num))]) (W6.setCell ⟨w3.heap.size,0,none⟩ (.int .i64 r2)) (ns'++more2) F2 r2):=zqh (by
   refine ⟨⟨by rw[jC];exact hq6,fun b o hb ho hn=>?_⟩,⟨?_,?_⟩,SB.keep hA6 (fun b q=>hbnd b (fun e=>hF2n (by rw[e];exact q))),fun b q=>?_,?_,hrI,hgrow2,?_,?_,?_,?_,fun hpre=>?_⟩
   ·have hblt:=(Array.getElem?_eq_some_iff.1 ho).1
    rw[hbnd b (by have:=HM.out.2.2.2.2;omega),hb6 b hblt (fun z=>?_)]
    ·exact ho
    ·have:=hmB j.ab z ho (fun cs t p q=>by rw[q] at hn;cases hn)
     omega
   ·rw[hbnd _ HM.out.2.2.1]
    exact hb6 _ (by have:=j.size;omega) (hnF _ (by omega) (hnew _ (by have:=HSz.out;have:=HS2.out;omega)))
   ·rw[hbnd _ HM.out.2.2.2.1]
    exact hb6 _ (by have:=j.size;omega) (hnF _ hgs HGn.out)
   ·rcases hF6 b q with q | q
    ·exact j.low b q
    ·exact Or.inr (qH j.size q)
   ·have h1:OffF (fun b=>F b\/g=b) w W6:=by
     refine ⟨ho6.os.trans j.off.os,ho6.tape.trans j.off.tape,ho6.output.trans j.off.output,qH j.off.size ho6.size,fun b hb hn=>?_⟩
     rw[ho6.block b (qM hb j.off.size) (hnF b (by omega) (fun z=>hn (Or.inl z)))]
     exact j.off.block b hb hn
    refine ⟨h1.os,h1.tape,h1.output,by rw[jC];exact h1.size,fun b hb hn=>?_⟩
    rw[hbnd b (by have:=HSz.out;have:=HS2.out;omega)]
    exact h1.block b hb hn
   ·exact hboxW.other (fun e=>HM.out.1 e.symm) _
   ·exact hkW.other (fun e=>HM.out.2.1 e.symm) _
   ·exact hidW.set 0 _
   ·rw[jC];exact qH j.size hq6
   ·rw[qF,yE,zeC] at hpre
    obtain ⟨e1,e2⟩:=List.append_inj' hpre rfl
    injection e2 with e2 _
    injection e2 with e2 e3
    have e3:x=zs[zs.length-1-pre.length]?.getD 0:=by
     have:=congrArg Subtype.val e3
     rw[zkG (hzI _ (by omega))] at this
     exact this
    have hst:=j.right e1
    rw[hzl] at e3
    rw[hzj _ (by omega)] at e3
    obtain ⟨t,ht⟩:∃t,t=p-1-pre.length:=⟨_,rfl⟩
    rw[show p-pre.length=t+1 by omega] at hst
    have e4:(sorted l)[t]'(by rw[HSl.out];omega)=x:=by
     have e5:(sorted l)[t]'(by rw[HSl.out];omega)=(sorted l)[p-1-pre.length]'(by rw[HSl.out];omega):=by simp only[ht]
     exact e5.trans e3.symm
    rw[qF,yE,show p-(pre.length+1)=t by omega]
    rcases hr6 with e6 | ⟨h1,h2,h3⟩
    ·exact Or.inl e6
    ·right
     refine ⟨h1,?_⟩
     have hxin:zac ns x:=by
      have htm:(sorted l)[t]'(by rw[HSl.out];omega)∈sorted l:=qG _
      rcases HG.out _ htm with q | q
      ·rw[<-e4];exact q
      ·rw[e4] at q
       rw[q] at h2
       exact absurd h2 (by rw[zno HK.out];simp)
     obtain ⟨m0,hm0⟩:=hgrow
     rcases hst with e7 | ⟨s1,s2,s3⟩
     ·rw[e7] at h2
      exact absurd h2 (by rw[zpr HK.out];simp)
     ·rw[show (sorted l).drop t=x::(sorted l).drop (t+1) by rw[<-e4];exact yU (by rw[HSl.out];omega)]
      rw[hm0] at h1 h3 s1 s2 HFc ⊢
      exact ⟨zpq HK.out (ns:=ns) HFi.out HFc.out hxin s1 h1 h3 s2,fun y hy=>by
       rcases List.mem_cons.1 hy with e | e
       ·rw[e];exact hxin
       ·exact s3 y e⟩)
  clear hA6 hF6 ho6 hq6 hb6 hnF hnew hidW hboxW hkW hrI hgrow2 hbnd hF2n hI hJ0 hr6
  gi_wp2
  exact ⟨HFin.out.1,HFin.out.2.1,_,_,_,HFin.out.2.2⟩
end
end

section
open Go.RowKit
structure zbO (ns:List Nd) (k:Int) (l s T fd:List Int):Prop where
 nd:s.Nodup
 sin:∀z∈s,zac ns z
 tin:∀z∈T,zac ns z
 fnd:fd.Nodup
 ffr:∀y∈fd,y∈s/\kd ns y≠k
 leaf:∀x∈s,kd ns x≠k->x∈fd
 node:∀x∈s,kd ns x=k->(ka ns x∈s\/ka ns x∈T)/\(kb ns x∈s\/kb ns x∈T)
 all:∀x∈l,x∈s\/x∈T
 snd:∀z,z∈s\/z∈T->∀y∈mem ns k z,∃x∈l,y∈mem ns k x
theorem zbO.start {ns:List Nd} {k:Int} {l:List Int} (hl:∀x∈l,zac ns x):zbO ns k l [] l [] :=
 ⟨gO,(by intro z h;cases h),hl,gO,(by intro z h;cases h),(by intro z h;cases h),(by intro z h;cases h),fun x h=>Or.inr h,fun z h y hy=>by
  rcases h with h | h
  ·cases h
  ·exact ⟨z,h,hy⟩⟩
theorem zbO.skip {ns:List Nd} {k:Int} {l s T fd:List Int} {x:Int} (h:zbO ns k l s (T++[x]) fd) (hx:x∈s):zbO ns k l s T fd:=by
 have sub:∀z,z∈s\/z∈T++[x]->z∈s\/z∈T:=fun z q=>by
  rcases q with q | q
  ·exact Or.inl q
  ·rcases List.mem_append.1 q with q | q
   ·exact Or.inr q
   ·rw[List.mem_singleton.1 q];exact Or.inl hx
 have sup:∀z,z∈s\/z∈T->z∈s\/z∈T++[x]:=fun z q=>by
  rcases q with q | q
  ·exact Or.inl q
  ·exact Or.inr (jH _ q)
 exact ⟨h.nd,h.sin,fun z hz=>h.tin z (jH _ hz),h.fnd,h.ffr,h.leaf,fun y hy hk=>⟨sub _ (h.node y hy hk).1,sub _ (h.node y hy hk).2⟩,fun y hy=>sub _ (h.all y hy),fun z hz=>h.snd z (sup z hz)⟩
section
variable {ns:List Nd} (hf:zaA ns) {k:Int} (hk:k=4\/k=5)
include hf hk
theorem zbO.nodeStep {l s T fd:List Int} {x:Int} (h:zbO ns k l s (T++[x]) fd) (hx:x ∉ s) (e:kd ns x=k):zbO ns k l (x::s) (T++[ka ns x,kb ns x]) fd:=by
 have hxi:zac ns x:=h.tin x (by simp)
 obtain ⟨⟨a0,_⟩,b0,_⟩:=zaK hf hxi (by omega)
 have sub:∀z,z∈s\/z∈T++[x]->z∈x::s\/z∈T++[ka ns x,kb ns x]:=fun z q=>by
  rcases q with q | q
  ·exact Or.inl (qX _ q)
  ·rcases List.mem_append.1 q with q | q
   ·exact Or.inr (jH _ q)
   ·rw[List.mem_singleton.1 q];exact Or.inl (by simp)
 refine ⟨List.nodup_cons.2 ⟨hx,h.nd⟩,fun z hz=>?_,fun z hz=>?_,h.fnd,fun y hy=>⟨qX _ (h.ffr y hy).1,(h.ffr y hy).2⟩,fun y hy hn=>?_,fun y hy hn=>?_,fun y hy=>sub _ (h.all y hy),fun z hz y hy=>?_⟩
 ·rcases List.mem_cons.1 hz with rfl | hz
  ·exact hxi
  ·exact h.sin z hz
 ·rcases List.mem_append.1 hz with hz | hz
  ·exact h.tin z (jH _ hz)
  ·simp at hz
   rcases hz with rfl | rfl
   ·exact a0
   ·exact b0
 ·rcases List.mem_cons.1 hy with rfl | hy
  ·exact absurd e hn
  ·exact h.leaf y hy hn
 ·rcases List.mem_cons.1 hy with rfl | hy
  ·exact ⟨Or.inr (yJ _ (by simp)),Or.inr (yJ _ (by simp))⟩
  ·exact ⟨sub _ (h.node y hy hn).1,sub _ (h.node y hy hn).2⟩
 ·have hx':=h.snd x (Or.inr (by simp))
  rw[zbV hf hk hxi e] at hx'
  rcases hz with hz | hz
  ·rcases List.mem_cons.1 hz with rfl | hz
   ·exact h.snd z (Or.inr (by simp)) y hy
   ·exact h.snd z (Or.inl hz) y hy
  ·rcases List.mem_append.1 hz with hz | hz
   ·exact h.snd z (Or.inr (jH _ hz)) y hy
   ·simp at hz
    rcases hz with rfl | rfl
    ·exact hx' y (jH _ hy)
    ·exact hx' y (yJ _ hy)
omit hf hk in
theorem zbO.leafStep {l s T fd:List Int} {x:Int} (h:zbO ns k l s (T++[x]) fd) (hx:x ∉ s) (e:kd ns x≠k):zbO ns k l (x::s) T (fd++[x]):=by
 have hxi:zac ns x:=h.tin x (by simp)
 have sub:∀z,z∈s\/z∈T++[x]->z∈x::s\/z∈T:=fun z q=>by
  rcases q with q | q
  ·exact Or.inl (qX _ q)
  ·rcases List.mem_append.1 q with q | q
   ·exact Or.inr q
   ·rw[List.mem_singleton.1 q];exact Or.inl (by simp)
 refine ⟨List.nodup_cons.2 ⟨hx,h.nd⟩,fun z hz=>?_,fun z hz=>h.tin z (jH _ hz),?_,fun y hy=>?_,fun y hy hn=>?_,fun y hy hn=>?_,fun y hy=>sub _ (h.all y hy),fun z hz y hy=>?_⟩
 ·rcases List.mem_cons.1 hz with rfl | hz
  ·exact hxi
  ·exact h.sin z hz
 ·refine List.nodup_append.2 ⟨h.fnd,by simp,fun a ha b hb=>?_⟩
  rw[List.mem_singleton.1 hb]
  intro q
  rw[q] at ha
  exact hx (h.ffr x ha).1
 ·rcases List.mem_append.1 hy with hy | hy
  ·exact ⟨qX _ (h.ffr y hy).1,(h.ffr y hy).2⟩
  ·rw[List.mem_singleton.1 hy];exact ⟨by simp,e⟩
 ·rcases List.mem_cons.1 hy with rfl | hy
  ·exact yJ _ (by simp)
  ·exact jH _ (h.leaf y hy hn)
 ·rcases List.mem_cons.1 hy with rfl | hy
  ·exact absurd hn e
  ·exact ⟨sub _ (h.node y hy hn).1,sub _ (h.node y hy hn).2⟩
 ·rcases hz with hz | hz
  ·rcases List.mem_cons.1 hz with rfl | hz
   ·exact h.snd z (Or.inr (by simp)) y hy
   ·exact h.snd z (Or.inl hz) y hy
  ·exact h.snd z (Or.inr (jH _ hz)) y hy
theorem zbO.done {l s fd:List Int} (h:zbO ns k l s [] fd):fd.Nodup/\∀y,y∈fd↔∃x∈l,y∈mem ns k x:=by
 have up:∀(n:Nat) (x:Int),x.toNat<=n->x∈s->∀y∈mem ns k x,y∈fd:=by
  intro n
  induction n with
  | zero =>
   intro x hn hx y hy
   by_cases e:kd ns x=k
   ·have h1:=(zaK hf (h.sin x hx) (by omega)).1
    have h2:=h.sin x hx
    unfold zac at h1 h2
    omega
   ·rw[zdl e,xG] at hy
    rw[hy];exact h.leaf x hx e
  | succ n ih =>
   intro x hn hx y hy
   by_cases e:kd ns x=k
   ·have h1:=zaK hf (h.sin x hx) (by omega)
    have h2:=h.sin x hx
    unfold zac at h1 h2
    have h3:=h.node x hx e
    have ha:ka ns x∈s:=by
     rcases h3.1 with q | q
     ·exact q
     ·cases q
    have hb:kb ns x∈s:=by
     rcases h3.2 with q | q
     ·exact q
     ·cases q
    rw[zbV hf hk (h.sin x hx) e] at hy
    rcases List.mem_append.1 hy with hy | hy
    ·exact ih _ (by omega) ha y hy
    ·exact ih _ (by omega) hb y hy
   ·rw[zdl e,xG] at hy
    rw[hy];exact h.leaf x hx e
 refine ⟨h.fnd,fun y=>⟨fun hy=>?_,?_⟩⟩
 ·obtain ⟨h1,h2⟩:=h.ffr y hy
  exact h.snd y (Or.inl h1) y (by rw[zdl h2];simp)
 ·rintro ⟨x,hx,hy⟩
  rcases h.all x hx with q | q
  ·exact up _ x zqn q y hy
  ·cases q
end
def zdP (n:Nat) (p:Int->Bool):Nat:=((List.range n).filter (fun (j:Nat)=>!p (j:Int))).length
theorem zdv {n:Nat} {s:List Int} {x:Int} (h0:0<=x) (h1:x<(n:Int)) (hx:x ∉ s):zdP n (fun y=>decide (y∈x::s))+1<=zdP n (fun y=>decide (y∈s)):=by
 have key:∀(l:List Nat),((l.filter (fun (j:Nat)=>!decide ((j:Int)∈x::s))).length+(if x.toNat∈l then 1 else 0)<=(l.filter (fun (j:Nat)=>!decide ((j:Int)∈s))).length):=by
  intro l
  induction l with
  | nil=>simp
  | cons a l ih =>
   by_cases e:(a:Int)=x
   ·have ea:x.toNat=a:=by omega
    have h2:decide ((a:Int)∈x::s)=true:=by rw[e];simp
    have h3:decide ((a:Int)∈s)=false:=by rw[e];simp[hx]
    have h5:x.toNat∈a::l:=by rw[ea];simp
    simp only[List.filter_cons,h2,h3,kN,Bool.not_false,if_true,xH,if_false,jX,h5]
    have:(l.filter (fun (j:Nat)=>!decide ((j:Int)∈x::s))).length<=(l.filter (fun (j:Nat)=>!decide ((j:Int)∈s))).length:=by omega
    omega
   ·have ea:x.toNat≠a:=by omega
    have h2:decide ((a:Int)∈x::s)=decide ((a:Int)∈s):=by simp[e]
    have h4:(if x.toNat∈a::l then 1 else 0)=(if x.toNat∈l then 1 else 0):=by simp[ea]
    rw[h4]
    cases q:decide ((a:Int)∈s) with
    | true =>
     simp only[List.filter_cons,h2,q,kN,xH,if_false]
     exact ih
    | false =>
     simp only[List.filter_cons,h2,q,Bool.not_false,if_true,jX]
     omega
 have:=key (List.range n)
 rw[if_pos (List.mem_range.2 (by omega))] at this
 exact this
end

section
open Go.RowKit Go.Maps
theorem zaS:Keyed Tryz.prog 3:=Maps.int_keyed Tryz.underlying3
theorem zci {x:Int} (h:I64 x):keyOf Tryz.prog 3 (.int .i64 x)=some (.int .i64 x):=Maps.keyOf_int_mk Tryz.underlying3 (WalkArith.wf_i64 (by unfold I64 at h;omega))
def zlT:Value->Option (DataW Unit×List MemPlace)
 | .agg ⟨[]⟩=>some (.agg [],[])
 | _=>none
theorem zps {v:Value} {z:DataW Unit×List MemPlace} (h:zlT v=some z):v=.agg #[]:=by
 unfold zlT at h
 split at h
 ·rfl
 ·cases h
def zaT (w:World) (b n:Nat) (s:List Int):Prop:=∃D:DataW Unit,w.ownsMap Tryz.prog 3 zlT b n D/\∀x,I64 x->has D (.int .i64 x)=decide (x∈s)
theorem zaT.made (w:World):zaT (w.alloc (.map #[] 0)) w.heap.size 0 []:=⟨_,World.ownsMap_made _ _ _ _,fun x _=>(show false=decide (x∈([]:List Int)) by simp)⟩
theorem zaT.lt {w:World} {b n:Nat} {s:List Int} (h:zaT w b n s):b<w.heap.size:=by obtain ⟨D,h1,_⟩:=h;exact h1.lt
theorem zaT.kept {w w':World} {b n:Nat} {s:List Int} (h:zaT w b n s) (hb:w'.heap[b]?=w.heap[b]?):zaT w' b n s:=by
 obtain ⟨D,⟨es,clock,h1,h2⟩,h3⟩:=h
 exact ⟨D,⟨es,clock,hb.trans h1,h2⟩,h3⟩
theorem zkH (w:World):(zeroValue 111).run Tryz.prog w=.ok (.agg #[]) w:=by kernel_rfl
theorem zrR (w:World) {x:Int} (hx:I64 x):(Instr.lookup 110 (.map none) (.int .i64 x) true).run Tryz.prog w=.ok (.tuple #[.agg #[],.bool false]) w :=
 Maps.look_nil true zaS Tryz.underlying110 (zkH w) (zci hx)
theorem zaT.look {w:World} {b n:Nat} {s:List Int} {x:Int} (h:zaT w b n s) (hx:I64 x):(Instr.lookup 110 (.map (some b)) (.int .i64 x) true).run Tryz.prog w=.ok (.tuple #[.agg #[],.bool (decide (x∈s))]) w:=by
 obtain ⟨D,hown,hD⟩:=h
 obtain ⟨v,ps,hr,hv⟩:=hown.look_ok zaS Tryz.underlying110 (zkH w) (zd:=.agg []) (zp:=[]) rfl (zci hx)
 rw[hr,hD x hx,zps hv]
theorem zaT.store {w:World} {b n:Nat} {s:List Int} {x:Int} (h:zaT w b n s) (hx:I64 x) (hn:n<=1000000):∃w',(Instr.mapUpdate 110 (.map (some b)) (.int .i64 x) (.agg #[])).run Tryz.prog w=.ok () w'/\zaT w' b (n+1) (x::s)/\w.grownBy w' (some b):=by
 obtain ⟨D,hown,hD⟩:=h
 obtain ⟨w',hr,h1,h2⟩:=kO (val:=.agg #[]) (d:=.agg []) (ps:=[]) hown zaS Tryz.underlying110 (show n<maxLen by unfold maxLen;omega) (zci hx) rfl
 refine ⟨w',hr,⟨_,h1,fun y hy=>?_⟩,h2⟩
 by_cases e:x=y
 ·subst e
  rw[has_put_same hown.isMap (zaS.key (zci hx))];simp
 ·have hk:(Lit.int .i64 y)≠Lit.int .i64 x:=fun q=>by injection q with _ q;exact e q.symm
  rw[has_put_other hk,hD y hy]
  by_cases hm:y∈s
  ·rw[qD hm,qD (qX _ hm)]
  ·rw[qE hm,qE (fun q=>by rcases List.mem_cons.1 q with q | q;exact e q.symm;exact hm q)]
end

section
open Go.RowKit Go.Maps
def zuY:Value->Option (DataW Unit×List MemPlace)
 | .agg ⟨[.bool b]⟩=>some (.lit (.bool b),[])
 | _=>none
theorem zic {v:Value} {b:Bool} {ps:List MemPlace} (h:zuY v=some (.lit (.bool b),ps)):v=.agg #[.bool b]:=by
 unfold zuY at h
 split at h
 ·injection h with h
  injection h with h _
  injection h with h
  injection h with h
  rw[h]
 ·cases h
def za1 (w:World) (b:Nat) (f:Int->Bool) (s:List Int):Prop:=∃D:DataW Unit,w.ownsMap Tryz.prog 3 zuY b s.length D/\∀x,I64 x->has D (.int .i64 x)=decide (x∈s)/\(x∈s->D.atKey (.int .i64 x) (.lit (.bool false))=.lit (.bool (f x)))
theorem za1.made (w:World) (f:Int->Bool):za1 (w.alloc (.map #[] 0)) w.heap.size f []:=⟨_,World.ownsMap_made _ _ _ _,fun x _=>⟨(show false=decide (x∈([]:List Int)) by simp),fun h=>by cases h⟩⟩
theorem za1.lt {w:World} {b:Nat} {f:Int->Bool} {s:List Int} (h:za1 w b f s):b<w.heap.size:=by obtain ⟨D,h1,_⟩:=h;exact h1.lt
theorem za1.kept {w w':World} {b:Nat} {f:Int->Bool} {s:List Int} (h:za1 w b f s) (hb:w'.heap[b]?=w.heap[b]?):za1 w' b f s:=by
 obtain ⟨D,⟨es,clock,h1,h2⟩,h3⟩:=h
 exact ⟨D,⟨es,clock,hb.trans h1,h2⟩,h3⟩
theorem zrS (w:World):(zeroValue 200).run Tryz.prog w=.ok (.agg #[.bool false]) w:=by kernel_rfl
theorem za1.look {w:World} {b:Nat} {f:Int->Bool} {s:List Int} {x:Int} (h:za1 w b f s) (hx:I64 x):(Instr.lookup 142 (.map (some b)) (.int .i64 x) true).run Tryz.prog w=.ok (.tuple #[.agg #[.bool (decide (x∈s)&&f x)],.bool (decide (x∈s))]) w:=by
 obtain ⟨D,hown,hD⟩:=h
 obtain ⟨h1,h2⟩:=hD x hx
 obtain ⟨v,ps,hr,hv⟩:=hown.look_ok zaS Tryz.underlying142 (zrS w) (zd:=.lit (.bool false)) (zp:=[]) rfl (zci hx)
 rw[hr,h1]
 by_cases e:x∈s
 ·rw[h2 e] at hv
  rw[zic hv,qD e,jS]
 ·rw[atKey_of_not_has (by rw[h1];exact qE e)] at hv
  rw[zic hv,qE e,yC]
theorem za1.store {w:World} {b:Nat} {f:Int->Bool} {s:List Int} {x:Int} {v:Bool} (h:za1 w b f s) (hx:I64 x) (hv:v=f x) (hn:s.length<=1000000):∃w',(Instr.mapUpdate 142 (.map (some b)) (.int .i64 x) (.agg #[.bool v])).run Tryz.prog w=.ok () w'/\za1 w' b f (x::s)/\w.grownBy w' (some b):=by
 obtain ⟨D,hown,hD⟩:=h
 obtain ⟨w',hr,h1,h2⟩:=kO (val:=.agg #[.bool v]) (d:=.lit (.bool v)) (ps:=[]) hown zaS Tryz.underlying142 (show s.length<maxLen by unfold maxLen;omega) (zci hx) rfl
 refine ⟨w',hr,⟨_,h1,fun y hy=>?_⟩,h2⟩
 by_cases e:x=y
 ·subst e
  rw[has_put_same hown.isMap (zaS.key (zci hx)),atKey_put_same hown.isMap (zaS.key (zci hx)),hv]
  exact ⟨by simp,fun _=>rfl⟩
 ·have hk:(Lit.int .i64 y)≠Lit.int .i64 x:=fun q=>by injection q with _ q;exact e q.symm
  obtain ⟨q1,q2⟩:=hD y hy
  rw[has_put_other hk,q1,atKey_put_other hk]
  refine ⟨?_,fun q=>q2 ?_⟩
  ·by_cases hm:y∈s
   ·rw[qD hm,qD (qX _ hm)]
   ·rw[qE hm,qE (fun q=>by rcases List.mem_cons.1 q with q | q;exact e q.symm;exact hm q)]
  ·rcases List.mem_cons.1 q with q | q
   ·exact absurd q.symm e
   ·exact q
theorem zhB {n:Nat}:∀{s m:List Int},s.Nodup->(∀z∈s,z∈m)->s.length<=m.length
 | [],_,_,_=>qK _
 | x::s,m,hp,h=>by
  obtain ⟨h1,h2⟩:=List.nodup_cons.1 hp
  have hx:x∈m:=h x (by simp)
  have ih:=zhB (n:=n) (m:=m.erase x) h2 (fun z hz=>(List.mem_erase_of_ne (fun e=>h1 (by rw[<-e];exact hz))).2 (h z (qX _ hz)))
  have:=List.length_erase_of_mem hx
  have hpos:0<m.length:=List.length_pos_of_mem hx
  rw[jX]
  omega
theorem zbd {n:Nat} {s:List Int} (hp:s.Nodup) (h:∀z∈s,0<=z/\z<(n:Int)):s.length<=n:=by
 have:=zhB (n:=n) (m:=(List.range n).map Int.ofNat) hp (fun z hz=>by
  obtain ⟨h0,h1⟩:=h z hz
  exact List.mem_map.2 ⟨z.toNat,List.mem_range.2 (by omega),by show ((z.toNat:Nat):Int)=z;omega⟩)
 simpa using this
structure zcc (w:World) (a:Value) (ns:List Nd) (bits g m:Nat) (s:List Int):Prop where
 box:At w g 144 #[a,.int .u8 bits,.map (some m)]
 ids:za1 w m (zan ns bits) s
 ne:g≠m
 nodup:s.Nodup
 inn:∀z∈s,zac ns z
theorem zcc.kept {w w':World} {a:Value} {ns:List Nd} {bits g m:Nat} {s:List Int} (h:zcc w a ns bits g m s) (hg:w'.heap[g]?=w.heap[g]?) (hm:w'.heap[m]?=w.heap[m]?):zcc w' a ns bits g m s :=
 ⟨hg.trans h.box,h.ids.kept hm,h.ne,h.nodup,h.inn⟩
theorem zcc.next {w w':World} {a:Value} {ns:List Nd} {bits g m:Nat} {s:List Int} (h:zcc w a ns bits g m s) (hb:Below w.heap.size w w'):zcc w' a ns bits g m s:=h.kept (hb.block _ h.box.lt) (hb.block _ h.ids.lt)
theorem zcc.room {w:World} {a:Value} {ns:List Nd} {bits g m:Nat} {s:List Int} (h:zcc w a ns bits g m s):s.length<=ns.length:=zbd h.nodup h.inn
end
end Go.Proofs.YtdmodhnhldbpnaaGreat
