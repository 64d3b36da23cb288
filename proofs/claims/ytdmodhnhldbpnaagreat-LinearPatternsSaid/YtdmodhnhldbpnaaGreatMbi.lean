/- Joined: FgLeast, FgAnd, FoR. -/
import Derived.Test.YtdmodhnhldbpnaaGreatMbg
import Derived.Test.YtdmodhnhldbpnaaGreatAid
/- package formula: least, also where these are more than most. -/
set_option linter.unusedSimpArgs false
set_option linter.unusedVariables false
set_option maxHeartbeats 8000000
set_option maxRecDepth 100000
namespace Go.Proofs.YtdmodhnhldbpnaaGreat
section
open Go.RowKit
theorem zrc (xs:List Pt) (most:Nat) (v:Value) (base:Nat) (w:World) (h:Pts w base v xs) (hx:∀x∈xs,zbB w (fun b=>v.ownBlock=some b) x) (hl:xs.length<=1000000) (hl2:∀x∈xs,x.l.length<=1000000) (hm63:most<=9223372036854775807) :
  Calls Tryz.prog 100 #[v,.int .i64 most] w fun e w'=>∃v' r,e=.returned v'/\Pts w' base v' r/\(v'.ownBlock=v.ownBlock/\∀R,(∀b,v.ownBlock=some b->R b)->(∀x∈xs,zbB w R x)->∀x∈r,zbB w' R x)/\(∀x∈r,x∈xs)/\((r.length<=most/\zeH xs r)\/r.length=most+1)/\w.grownBy w' v.ownBlock:=by
 rcases h.row with ⟨rfl,rfl⟩ | ⟨g,cap,rfl,hn,hcm,hb,hr⟩
 ·go_enter Tryz.func100,Tryz.ntmps100
  have hN:=Proofs.AnyF.slices_SortFunc_none zbN none 0 (.func (.func 140) #[] #[])
  change ∀w,Calls Tryz.prog 139 _ _ _ at hN
  go_wp2_with fail
  refine (hN _).mono ?_
  rintro e w1 ⟨rfl,rfl⟩
  clear hN
  go_wp2_with fail
  refine (zg8 _ _).mono ?_
  rintro e w1 ⟨rfl,rfl⟩
  go_wp2_with fail
  go_loopw [7,18] (fun u v wr=>u=.slice none 0 0/\v=.int .i64 0/\w1=wr) (fun _ v _=>0)
  case atStart=>exact ⟨rfl,rfl,rfl⟩
  case round =>
   obtain ⟨rfl,rfl,rfl⟩:=hrel
   go_wp2_with fail
   go_ret
   exact ⟨_,[],rfl,h,⟨rfl,fun R _ _ x hx=>by cases hx⟩,(fun x hx=>by cases hx),Or.inl ⟨qK _,zdX⟩,⟨rfl,rfl,rfl,qL _,fun _ _ _=>rfl⟩⟩
 ·have hcap:cap<=9223372036854775807:=by unfold maxLen at hcm;omega
  have HCm:=zqh hcm
  have HX:=zqh hx
  have HL2:=zqh hl2
  have hS:=zhL xs w g cap cap hr (fun x hx'=>(hx x hx').forget (fun b _ e=>by rw[e];rfl)) hn (by omega)
  go_enter Tryz.func100,Tryz.ntmps100
  clear hx hl2 hcm h hr
  go_wp2_with fail
  refine hS.mono ?_
  rintro e w1 ⟨rfl,d,hperm,hord,hr1,n1,os1,hw1⟩
  have hg1:w.grownBy w1 (some g):=by rw[hw1];exact zdV d
  have hsz:d.size=xs.length:=by have:=hperm.length_eq;simpa using this
  clear hw1 hS
  obtain ⟨D,hD⟩:∃D:Array Pt,d.map (·.val)=D:=⟨_,rfl⟩
  have hDs:D.size=xs.length:=by rw[<-hD];simpa using hsz
  have hDp:D.toList.Perm xs:=by rw[<-hD];simpa using hperm
  have hDa:∀j,j<D.size->D[j]! = (d[j]!).val:=fun j hj=>by
   have hj':j<d.size:=by omega
   rw[getElem!_pos D j hj,getElem!_pos d j hj']
   simp[<-hD]
  have hDr:RowF w1 g cap (fun j=>D[j]?):=hr1.weaken (fun j x e=>by rw[<-hD,Array.getElem?_map] at e;exact e)
  have hDo:∀j,j<D.size->zbB w1 (fun b=>b=g) D[j]! := fun j hj=>by rw[hDa j hj];exact ((d[j]!).property).grown hg1 (fun k e=>by injection e with e;exact e.symm)
  obtain ⟨hsrt,hin,hcov⟩:=zra hDp (fun i j hij hj=>by rw[hDa j hj,hDa i (by omega)];exact hord i j hij (by omega)) (fun x hx=>(HX.out x hx).2.1.1)
  have hcl:=zjj (key:=fun x:Pt=>x.l) D D.size
  have hC:=zfq D w1 g cap cap hDr hDo (by omega) (by omega) (by omega) hcap
  rw[hDs] at hC
  obtain ⟨ys,hys⟩:∃ys,zcD (·.l) D D.size=ys:=⟨_,rfl⟩
  rw[hys] at hsrt hin hcov hcl
  rw[<-hDs,hys,hDs] at hC
  have HC:=zqh hC
  have HSrt:=zqh hsrt
  have HIn:=zqh hin
  have HCov:=zqh hcov
  have HG1:=zqh hg1
  have hyl:ys.length<=xs.length:=by omega
  clear hperm hord hr1 hsz hD hDs hDp hDa hDr hDo hsrt hin hcov hcl hC hys hg1
  go_wp2_with fail
  refine HC.out.mono ?_
  rintro e w2 ⟨rfl,hr2,hg2⟩
  have HG2:=zqh (zbo HG1.out hg2)
  have HR2:=zqh hr2
  clear hr2 hg2
  go_wp2_with fail
  go_loopw [5,6,7,18] (fun s5 s6 s7 s18 wr=>∃(i len sh k:Nat),i<=ys.length/\k<=most/\s5=.int .i64 len/\s6=.int .i64 sh/\s7=.slice (some ⟨g,0,none⟩) k cap/\s18=.int .i64 i/\Hid (∃ks:List Pt,ks.length=k/\zf4 ys ks i len sh/\RowF wr g cap (zgp ks ys i))/\Hid (w.grownBy wr (some g))) (fun _ _ _ s18 _=>ys.length-(intOf s18).toNat)
  case atStart=>exact ⟨0,0,0,0,qK _,qK _,rfl,rfl,rfl,rfl,zqh ⟨[],rfl,zf4.start ys,HR2.out.weaken (fun j x e=>by
   unfold zgp at e
   rw[if_neg (by simp),if_pos (qK _)] at e;exact e)⟩,HG2⟩
  case round =>
   obtain ⟨i,len,sh,k,hi,hkm,rfl,rfl,rfl,rfl,HK,HG⟩:=hrel
   by_cases hlt:i<ys.length
   ·have h1:(0:Int)<=(i:Int):=by omega
    have h2:(i:Int)<(ys.length:Int):=by omega
    obtain ⟨ks,hk,hK,hR⟩:=HK.out
    obtain ⟨x,hxe⟩:∃x,ys[i]=x:=⟨_,rfl⟩
    have hxq:ys[i]?=some x:=by rw[<-hxe];exact qI hlt
    have HKle:Hid (k<=i):=zqh (by have:=hK.le;omega)
    obtain ⟨c0,c1⟩:=hR.cell (j:=i) (x:=x) (by unfold zgp;rw[if_neg (by have:=hK.le;omega),if_pos zqn];exact hxq)
    have HXm:Hid (x∈xs):=zqh (HIn.out x (by rw[<-hxe];exact qG hlt))
    have HXo:Hid (zbB wr (fun b=>some g=some b) x):=zqh ((HX.out x HXm.out).grown HG.out (fun b e=>e))
    have HKm:Hid (∀y∈ks,y∈xs):=zqh (fun y hy=>HIn.out y (qP (hK.sub.subset hy)))
    obtain ⟨Ax,cx,hv,_⟩:=HXo.out.1
    obtain ⟨xv,hxv⟩:∃xv,x.v=xv:=⟨_,rfl⟩
    rw[hxv] at hv c0
    subst hv
    have HXv:=zqh hxv
    have HXe:=zqh hxe
    have HXq:=zqh hxq
    have HKl:=zqh hk
    have HKi:=zqh hK
    have HR:=zqh hR
    have hBa:Below wr.heap.size wr (wr.alloc (.cells #[.slice Ax x.l.length cx,.int .u64 x.m] 171)):=zqb
    have hbox:At (wr.alloc (.cells #[.slice Ax x.l.length cx,.int .u64 x.m] 171)) wr.heap.size 171 #[.slice Ax x.l.length cx,.int .u64 x.m]:=At.new _ _ _
    have hkc:k<=cap:=by have:=HKle.out;omega
    have hxl:x.l.length<=1000000:=HL2.out x HXm.out
    clear hK hR hxv hxe hxq hk
    by_cases hll:len<x.l.length
    ·have hll1:(x.l.length:Int) > (len:Int):=by omega
     have hsh:k<=k:=qL _
     have hst:Hid (KAt ys ks i k hlt):=zqh (by have:=HKi.out.up HSrt.out hlt (by rw[HXe.out];exact hll);rwa [HKl.out] at this)
     have zz1:(k:Int)<=(cap:Int):=by omega
     have zz2:(0:Int)<=(k:Int):=by omega
     go_wp2_with fail
     try go_wp2_with fail
     have hBd:Below wr.heap.size wr (wr.alloc (.cells #[.slice Ax x.l.length cx,.int .u64 x.m] 171)).drew:=yF hBa
     have hps:zdC (wr.alloc (.cells #[.slice Ax x.l.length cx,.int .u64 x.m] 171)).drew (.slice (some ⟨g,0,none⟩) k cap) (ks.take k):=by
      have hlen:(ks.take k).length=k:=by rw[jR];have:=HKl.out;omega
      have hrr:RowF (wr.alloc (.cells #[.slice Ax x.l.length cx,.int .u64 x.m] 171)).drew g cap (zgp ks ys i):=HR.out.next hBd
      refine ⟨⟨some ⟨g,0,none⟩,cap,by rw[hlen],by rw[hlen];omega,hcap,fun _=>⟨g,cap,rfl,by rw[hlen];omega,hrr.weaken (fun j y e=>?_)⟩⟩,fun y hy=>?_⟩
      ·have hj:j<k:=by have:=(List.getElem?_eq_some_iff.1 e).1;omega
       rw[jV hj] at e
       unfold zgp;rw[if_pos (by have:=HKl.out;omega)];exact e
      ·have hy':=HKm.out y (qP hy)
       exact (((HX.out y hy').grown HG.out (fun b e=>e)).below hBd).forget (fun _ _ h=>h.elim)
     have hone:=zg7 x (ks.take k) (some ⟨g,0,none⟩) k cap _ (wr.alloc (.cells #[.slice Ax x.l.length cx,.int .u64 x.m] 171)).drew (HXo.out.below hBd) hps (fun y hy=>by
      rcases List.mem_cons.1 hy with rfl | hy
      ·have:=HL2.out _ HXm.out;omega
      ·have:=HL2.out y (HKm.out y (qP hy));omega)
     rw[HXv.out] at hone
     obtain ⟨r,hrr⟩:∃r,(ks.take k).any (fun q=>zg5 q.l x.l)=r:=⟨_,rfl⟩
     have HRr:=zqh hrr
     rw[hrr] at hone
     have HOne:=zqh hone
     have HBa:=zqh hBd
     have HBox:=zqh hbox
     have b0:(wr.alloc (.cells #[.slice Ax x.l.length cx,.int .u64 x.m] 171)).drew.cell? ⟨wr.heap.size,0,none⟩=some (.slice Ax x.l.length cx):=hbox.cell 0
     have b1:(wr.alloc (.cells #[.slice Ax x.l.length cx,.int .u64 x.m] 171)).drew.cell? ⟨wr.heap.size,1,none⟩=some (.int .u64 x.m):=hbox.cell 1
     clear hps hone c0 c1 hBa hbox hBd hrr
     cases r
     ·go_region_with (first
       |(go_at_call 144;(with_reducible refine (HOne.out).mono ?_);rintro e w3 ⟨rfl,hb3⟩
         have HB3:=zqh (HBa.out.trans (hb3.mono HBa.out.size))
         have HBox3:=zqh ((HBox.out.drew).below hb3 HBox.out.lt)
         have HR3:=zqh (HR.out.next HB3.out)
         have HG3:Hid (w.grownBy w3 (some g)):=zqh (zaO HG.out HB3.out)
         have hw3:Hid (wr.heap.size<w3.heap.size):=zqh (qM HBox.out.lt hb3.size)
         clear hb3))
      clear b0 b1
      have d0:=HBox3.out.cell 0
      have d1:=HBox3.out.cell 1
      have hkk:k+1<=cap:=by have:=HKle.out;omega
      have hap:=zcY (w3.alloc (.cells #[.slice Ax x.l.length cx,.int .u64 x.m] 171)) g k cap w3.heap.size 1 (.slice Ax x.l.length cx) x.m 138 rfl ((At.new _ _ _).cell 0) ((At.new _ _ _).cell 1) hkk (fun j hj=>(HR3.out.next (zqb)).some (by omega)) (fun j hj=>(HR3.out.next (zqb)).free _)
      have hkn:Hid (zf4 ys (ks++[x]) (i+1) x.l.length k):=zqh (by
       have:=hst.out.keep HSrt.out (by rw[HXe.out];exact HRr.out)
       rwa [HXe.out] at this)
      have HAp:=zqh hap
      clear hap hkk
      by_cases hle:(k:Int)+1<=(most:Int)
      ·have hle2:¬((k:Int)+1 > (most:Int)):=by omega
       have hkm1:k+1<=most:=by omega
       clear hle
       go_wp2_with (first | (at_builtin;refine Lib.wpList_append_run _ rfl _ _ _ _ rfl _ _ rfl rfl _ _ HAp.out ?_) | fail)
       refine ⟨⟨i+1,x.l.length,k,k+1,by omega,by omega,rfl,rfl,by first | rfl | (congr 1;omega),by go_num,zqh ⟨ks++[x],by have:=HKl.out;simp;omega,hkn.out,?_⟩,zqh ?_⟩,by simp[intOf];omega⟩
       ·have h3:=(HR3.out.next ((qT _ _).alloc zqn (.cells #[.slice Ax x.l.length cx,.int .u64 x.m] 171))).put (i:=k) (by have:=HKle.out;omega) x
        rw[HXv.out] at h3
        exact h3.weaken (zed HKl.out HKle.out HXq.out)
       ·exact zbo (zaO HG3.out (zqb)) (zdS _ g (k*2) (k*2+1) _ _)
      ·have hle2:(k:Int)+1 > (most:Int):=by omega
       have hkm1:Hid (k+1=most+1):=zqh (by omega)
       clear hle
       go_wp2_with (first | (at_builtin;refine Lib.wpList_append_run _ rfl _ _ _ _ rfl _ _ rfl rfl _ _ HAp.out ?_) | fail)
       go_ret
       have h3:=(HR3.out.next ((qT _ _).alloc zqn (.cells #[.slice Ax x.l.length cx,.int .u64 x.m] 171))).put (i:=k) (by have:=HKle.out;omega) x
       rw[HXv.out] at h3
       have h4:=h3.weaken (zed HKl.out HKle.out HXq.out)
       have hown:=h4.own (base:=base) (ks++[x]) (fun j hj=>by unfold zgp;rw[if_pos hj];exact qI hj) (by have:=HKl.out;have:=HKle.out;simp;omega) HCm.out hb
       have hln:(ks++[x]).length=k+1:=by have:=HKl.out;simp;omega
       rw[hln] at hown
       have hmem:∀y∈ks++[x],y∈xs:=fun y hy=>by
        rcases List.mem_append.1 hy with hy | hy
        ·exact HKm.out y hy
        ·rw[List.mem_singleton.1 hy];exact HXm.out
       have HGG:=zbo (zaO HG3.out ((qT _ _).alloc zqn (.cells #[.slice Ax x.l.length cx,.int .u64 x.m] 171))) (zdS _ g (k*2) (k*2+1) (.slice Ax x.l.length cx) (.int .u64 x.m))
       exact ⟨_,ks++[x],rfl,hown,⟨rfl,fun R hR hP y hy=>(hP y (hmem y hy)).grown HGG (fun b e=>hR b e)⟩,hmem,Or.inr (by rw[hln];exact hkm1.out),HGG⟩
     ·go_region_with (first
       |(go_at_call 144;(with_reducible refine (HOne.out).mono ?_);rintro e w3 ⟨rfl,hb3⟩
         have HB3:=zqh (HBa.out.trans (hb3.mono HBa.out.size))
         have HBox3:=zqh ((HBox.out.drew).below hb3 HBox.out.lt)
         have HR3:=zqh (HR.out.next HB3.out)
         have HG3:Hid (w.grownBy w3 (some g)):=zqh (zaO HG.out HB3.out)
         have hw3:Hid (wr.heap.size<w3.heap.size):=zqh (qM HBox.out.lt hb3.size)
         clear hb3))
      clear b0 b1
      have hkn:Hid (zf4 ys ks (i+1) x.l.length k):=zqh (by
       have:=hst.out.drop HSrt.out (by rw[HXe.out];exact HRr.out)
       rwa [HXe.out] at this)
      have hle2:¬((k:Int) > (most:Int)):=by omega
      go_wp2_with fail
      refine ⟨⟨i+1,x.l.length,k,k,by omega,hkm,rfl,rfl,rfl,by go_num,zqh ⟨ks,HKl.out,hkn.out,HR3.out.weaken (zgq HKle.out)⟩,HG3⟩,by simp[intOf];omega⟩
    ·have hll1:¬((x.l.length:Int) > (len:Int)):=by omega
     obtain ⟨hka,hle0⟩:=HKi.out.stay HSrt.out hlt (by rw[HXe.out];exact hll)
     rw[HXe.out] at hle0
     have HKa:=zqh hka
     clear hka
     subst hle0
     have hsh:sh<=k:=(by have:=HKi.out.shle;have:=HKl.out;omega)
     have hst:Hid (KAt ys ks i sh hlt):=zqh HKa.out
     have zz1:(sh:Int)<=(cap:Int):=by omega
     have zz2:(0:Int)<=(sh:Int):=by omega
     go_wp2_with fail
     try go_wp2_with fail
     have hBd:Below wr.heap.size wr (wr.alloc (.cells #[.slice Ax x.l.length cx,.int .u64 x.m] 171)).drew:=yF hBa
     have hps:zdC (wr.alloc (.cells #[.slice Ax x.l.length cx,.int .u64 x.m] 171)).drew (.slice (some ⟨g,0,none⟩) sh cap) (ks.take sh):=by
      have hlen:(ks.take sh).length=sh:=by rw[jR];have:=HKl.out;omega
      have hrr:RowF (wr.alloc (.cells #[.slice Ax x.l.length cx,.int .u64 x.m] 171)).drew g cap (zgp ks ys i):=HR.out.next hBd
      refine ⟨⟨some ⟨g,0,none⟩,cap,by rw[hlen],by rw[hlen];omega,hcap,fun _=>⟨g,cap,rfl,by rw[hlen];omega,hrr.weaken (fun j y e=>?_)⟩⟩,fun y hy=>?_⟩
      ·have hj:j<sh:=by have:=(List.getElem?_eq_some_iff.1 e).1;omega
       rw[jV hj] at e
       unfold zgp;rw[if_pos (by have:=HKl.out;omega)];exact e
      ·have hy':=HKm.out y (qP hy)
       exact (((HX.out y hy').grown HG.out (fun b e=>e)).below hBd).forget (fun _ _ h=>h.elim)
     have hone:=zg7 x (ks.take sh) (some ⟨g,0,none⟩) sh cap _ (wr.alloc (.cells #[.slice Ax x.l.length cx,.int .u64 x.m] 171)).drew (HXo.out.below hBd) hps (fun y hy=>by
      rcases List.mem_cons.1 hy with rfl | hy
      ·have:=HL2.out _ HXm.out;omega
      ·have:=HL2.out y (HKm.out y (qP hy));omega)
     rw[HXv.out] at hone
     obtain ⟨r,hrr⟩:∃r,(ks.take sh).any (fun q=>zg5 q.l x.l)=r:=⟨_,rfl⟩
     have HRr:=zqh hrr
     rw[hrr] at hone
     have HOne:=zqh hone
     have HBa:=zqh hBd
     have HBox:=zqh hbox
     have b0:(wr.alloc (.cells #[.slice Ax x.l.length cx,.int .u64 x.m] 171)).drew.cell? ⟨wr.heap.size,0,none⟩=some (.slice Ax x.l.length cx):=hbox.cell 0
     have b1:(wr.alloc (.cells #[.slice Ax x.l.length cx,.int .u64 x.m] 171)).drew.cell? ⟨wr.heap.size,1,none⟩=some (.int .u64 x.m):=hbox.cell 1
     clear hps hone c0 c1 hBa hbox hBd hrr
     cases r
     ·go_region_with (first
       |(go_at_call 144;(with_reducible refine (HOne.out).mono ?_);rintro e w3 ⟨rfl,hb3⟩
         have HB3:=zqh (HBa.out.trans (hb3.mono HBa.out.size))
         have HBox3:=zqh ((HBox.out.drew).below hb3 HBox.out.lt)
         have HR3:=zqh (HR.out.next HB3.out)
         have HG3:Hid (w.grownBy w3 (some g)):=zqh (zaO HG.out HB3.out)
         have hw3:Hid (wr.heap.size<w3.heap.size):=zqh (qM HBox.out.lt hb3.size)
         clear hb3))
      clear b0 b1
      have d0:=HBox3.out.cell 0
      have d1:=HBox3.out.cell 1
      have hkk:k+1<=cap:=by have:=HKle.out;omega
      have hap:=zcY (w3.alloc (.cells #[.slice Ax x.l.length cx,.int .u64 x.m] 171)) g k cap w3.heap.size 1 (.slice Ax x.l.length cx) x.m 138 rfl ((At.new _ _ _).cell 0) ((At.new _ _ _).cell 1) hkk (fun j hj=>(HR3.out.next (zqb)).some (by omega)) (fun j hj=>(HR3.out.next (zqb)).free _)
      have hkn:Hid (zf4 ys (ks++[x]) (i+1) x.l.length sh):=zqh (by
       have:=hst.out.keep HSrt.out (by rw[HXe.out];exact HRr.out)
       rwa [HXe.out] at this)
      have HAp:=zqh hap
      clear hap hkk
      by_cases hle:(k:Int)+1<=(most:Int)
      ·have hle2:¬((k:Int)+1 > (most:Int)):=by omega
       have hkm1:k+1<=most:=by omega
       clear hle
       go_wp2_with (first | (at_builtin;refine Lib.wpList_append_run _ rfl _ _ _ _ rfl _ _ rfl rfl _ _ HAp.out ?_) | fail)
       refine ⟨⟨i+1,x.l.length,sh,k+1,by omega,by omega,rfl,rfl,by first | rfl | (congr 1;omega),by go_num,zqh ⟨ks++[x],by have:=HKl.out;simp;omega,hkn.out,?_⟩,zqh ?_⟩,by simp[intOf];omega⟩
       ·have h3:=(HR3.out.next ((qT _ _).alloc zqn (.cells #[.slice Ax x.l.length cx,.int .u64 x.m] 171))).put (i:=k) (by have:=HKle.out;omega) x
        rw[HXv.out] at h3
        exact h3.weaken (zed HKl.out HKle.out HXq.out)
       ·exact zbo (zaO HG3.out (zqb)) (zdS _ g (k*2) (k*2+1) _ _)
      ·have hle2:(k:Int)+1 > (most:Int):=by omega
       have hkm1:Hid (k+1=most+1):=zqh (by omega)
       clear hle
       go_wp2_with (first | (at_builtin;refine Lib.wpList_append_run _ rfl _ _ _ _ rfl _ _ rfl rfl _ _ HAp.out ?_) | fail)
       go_ret
       have h3:=(HR3.out.next ((qT _ _).alloc zqn (.cells #[.slice Ax x.l.length cx,.int .u64 x.m] 171))).put (i:=k) (by have:=HKle.out;omega) x
       rw[HXv.out] at h3
       have h4:=h3.weaken (zed HKl.out HKle.out HXq.out)
       have hown:=h4.own (base:=base) (ks++[x]) (fun j hj=>by unfold zgp;rw[if_pos hj];exact qI hj) (by have:=HKl.out;have:=HKle.out;simp;omega) HCm.out hb
       have hln:(ks++[x]).length=k+1:=by have:=HKl.out;simp;omega
       rw[hln] at hown
       have hmem:∀y∈ks++[x],y∈xs:=fun y hy=>by
        rcases List.mem_append.1 hy with hy | hy
        ·exact HKm.out y hy
        ·rw[List.mem_singleton.1 hy];exact HXm.out
       have HGG:=zbo (zaO HG3.out ((qT _ _).alloc zqn (.cells #[.slice Ax x.l.length cx,.int .u64 x.m] 171))) (zdS _ g (k*2) (k*2+1) (.slice Ax x.l.length cx) (.int .u64 x.m))
       exact ⟨_,ks++[x],rfl,hown,⟨rfl,fun R hR hP y hy=>(hP y (hmem y hy)).grown HGG (fun b e=>hR b e)⟩,hmem,Or.inr (by rw[hln];exact hkm1.out),HGG⟩
     ·go_region_with (first
       |(go_at_call 144;(with_reducible refine (HOne.out).mono ?_);rintro e w3 ⟨rfl,hb3⟩
         have HB3:=zqh (HBa.out.trans (hb3.mono HBa.out.size))
         have HBox3:=zqh ((HBox.out.drew).below hb3 HBox.out.lt)
         have HR3:=zqh (HR.out.next HB3.out)
         have HG3:Hid (w.grownBy w3 (some g)):=zqh (zaO HG.out HB3.out)
         have hw3:Hid (wr.heap.size<w3.heap.size):=zqh (qM HBox.out.lt hb3.size)
         clear hb3))
      clear b0 b1
      have hkn:Hid (zf4 ys ks (i+1) x.l.length sh):=zqh (by
       have:=hst.out.drop HSrt.out (by rw[HXe.out];exact HRr.out)
       rwa [HXe.out] at this)
      have hle2:¬((k:Int) > (most:Int)):=by omega
      go_wp2_with fail
      refine ⟨⟨i+1,x.l.length,sh,k,by omega,hkm,rfl,rfl,rfl,by go_num,zqh ⟨ks,HKl.out,hkn.out,HR3.out.weaken (zgq HKle.out)⟩,HG3⟩,by simp[intOf];omega⟩
   ·obtain rfl:i=ys.length:=by omega
    go_wp2_with fail
    go_ret
    obtain ⟨ks,hk,hK,hR⟩:=HK.out
    have hmem:∀x∈ks,x∈xs:=fun x hx=>HIn.out x (qP (hK.sub.subset hx))
    have hown:=hR.own (base:=base) ks (fun j hj=>by unfold zgp;rw[if_pos hj];exact qI hj) (by have:=hK.le;omega) HCm.out hb
    rw[hk] at hown
    refine ⟨_,ks,rfl,hown,⟨rfl,fun R hR hP x hx=>(hP x (hmem x hx)).grown HG.out (fun b e=>hR b e)⟩,hmem,Or.inl ⟨by rw[hk];exact hkm,hK.fmd HSrt.out (fun x hx n hn=>((HX.out x (HIn.out x hx)).2.1.2 n hn).1),fun p hp=>⟨p,hmem p hp,rfl⟩,fun x hx=>?_⟩,HG.out⟩
    obtain ⟨y,hy,e⟩:=HCov.out x hx
    obtain ⟨p,hp,e2⟩:=hK.cov y (by rw[qQ];exact hy)
    exact ⟨p,hp,fun z hz=>by rw[<-e];exact e2 z hz⟩
end

section
open Go.RowKit
theorem zvD (fs gs:List Pt) (L:List Int) (A B:Option Addr) (n c m d:Nat) (w:World) (hf:zdC w (.slice A n c) fs) (hg:zdC w (.slice B m d) gs) (hL:Up L) (h9:L.length<=20000) (hfL:InL L fs) (hgL:InL L gs) (hgl:gs.length<=20000) :
  Calls Tryz.prog 183 #[.slice A n c,.slice B m d] w fun e w'=>∃v r ok,e=.returned (.tuple #[v,.bool ok])/\Pts w' w.heap.size v r/\(∀x∈r,zbB w' (fun b=>v.ownBlock=some b) x)/\Fmd (zbJ r)/\InL L r/\r.length<=200/\(ok=true->∀on,zap (zbJ r) on=(zap (zbJ fs) on&&zap (zbJ gs) on))/\Below w.heap.size w w':=by
 have HF:=zqh hf
 have HGs:=zqh hg
 obtain ⟨hm,hm2,hm3⟩:=hf.max
 obtain rfl:=hf.len
 have hL':=zqh hL
 have h9':=zqh h9
 have hfL':=zqh hfL
 have hgL':=zqh hgL
 have hgl':=zqh hgl
 clear hf hg hL h9 hfL hgL hgl
 go_enter Tryz.func183,Tryz.ntmps183
 go_wp2_with fail
 go_loopw [6,11] (fun u v wr=>∃(i:Nat),i<=fs.length/\v=.int .i64 i/\Hid (∃ss:List Pt,Pts wr w.heap.size u ss/\(∀x∈ss,zbB wr (fun b=>u.ownBlock=some b) x)/\Fmd (zbJ ss)/\InL L ss/\ss.length<=200/\∀on,zap (zbJ ss) on=(zap (zbJ (fs.take i)) on&&zap (zbJ gs) on))/\Hid (Below w.heap.size w wr)) (fun _ v _=>fs.length-(intOf v).toNat)
 case atStart=>exact ⟨0,qK _,rfl,zqh ⟨[],Pts.nil _ _,(fun x hx=>by cases hx),zdX.1,(fun x hx=>by cases hx),qK _,fun on=>by simp[zbJ,zap]⟩,zqh (qT _ _)⟩
 case round =>
  obtain ⟨i,hi,rfl,HS,HB⟩:=hrel
  by_cases hlt:i<fs.length
  ·have h1:(0:Int)<=(i:Int):=by omega
   have h2:(i:Int)<(fs.length:Int):=by omega
   obtain ⟨g,x,rfl,_,hx,q0,q1,hxo⟩:=(HF.out.next HB.out).at i hlt
   have hbase:=HB.out.size
   have hxo2:zbB w (fun b=>w.heap.size<=b) x:=(HF.out.2 x (by rw[<-(List.getElem?_eq_some_iff.1 hx).2];exact qG hlt)).forget (fun b hb h=>by omega)
   have HXo:=zqh (hxo2.below HB.out)
   have HXi:=zqh hx
   have HXl:Hid (∀n∈x.l,n∈L):=zqh (hfL'.out x (by rw[<-(List.getElem?_eq_some_iff.1 hx).2];exact qG hlt))
   obtain ⟨Ax,cx,hv,_⟩:=hxo.1
   obtain ⟨xv,hxv⟩:∃xv,x.v=xv:=⟨_,rfl⟩
   rw[hxv] at hv q0
   subst hv
   have HXv:=zqh hxv
   have HBs:=zqh hbase
   clear hxo hxo2 hx hxv hbase
   have hBa:Hid (Below wr.heap.size wr (wr.alloc (.cells #[.slice Ax x.l.length cx,.int .u64 x.m] 171))):=zqh (zqb)
   go_wp2_with fail
   have hup9:∀y∈x::gs,y.l.length<=1000000:=fun y hy=>by
    have h9:=h9'.out
    rcases List.mem_cons.1 hy with rfl | hy
    ·have:=zg9 hL'.out HXo.out.2.1.1 HXl.out;omega
    ·have:=zg9 hL'.out (HGs.out.2 y hy).2.1.1 (hgL'.out y hy);omega
   have hW:=zvc x gs B m d (fun b=>w.heap.size<=b) (wr.alloc (.cells #[.slice Ax x.l.length cx,.int .u64 x.m] 171)) (HXo.out.below hBa.out) (HGs.out.next (HB.out.trans (hBa.out.mono HBs.out))) hup9 (by have:=hgl'.out;omega)
   rw[HXv.out] at hW
   have HW:=zqh hW
   clear hW hup9 q0 q1
   refine HW.out.mono ?_
   rintro e w5 ⟨v2,ts,rfl,t1,t2,t3,t4⟩
   obtain ⟨ss,s1,s2,s3,s4,hsl,s5⟩:=HS.out
   have hb5:Below wr.heap.size wr w5:=hBa.out.trans (t4.mono hBa.out.size)
   have htl:=zqj t3
   have hgl:=hgl'.out
   have s1':=s1.next hb5
   have hread:zdC w5 v2 ts:=t1.read (fun t ht=>(t2 t ht).forget (fun _ _ h=>h.elim))
   obtain ⟨ti,hti,htz,hts,htb⟩:=yZ zdR
   obtain ⟨v6,w6,hr6,o1,o2,o3⟩:=zcG (T:=138) (E:=171) Tryz.underlying138 hti htz hts htb rfl (by decide) (by decide) w5 w.heap.size _ ss.length _ v2 ts.length _ 138 s1' (qH HBs.out hb5.size) hread.src (by omega)
   have o1':Pts w6 w.heap.size v6 (ss++ts):=by
    unfold Pts
    rw[qF,List.flatMap_append];exact o1
   have hlow:=World.ownsRow.lt s1'
   have hlow0:=World.ownsRow.lt s1
   have hok:∀y∈ss++ts,zbB w6 (fun b=>v6.ownBlock=some b) y:=by
    intro y hy
    rcases List.mem_append.1 hy with h | h
    ·have h5:=(s2 y h).below hb5
     refine (h5.kept (w':=w6) (R':=fun b=>v6.ownBlock=some b) o2.size (fun b hb hlt=>o2.block b hlt (fun e=>hb e.symm)) (fun b hb e=>?_))
     rcases o3 with o | o
     ·rw[<-o];exact e
     ·rw[o] at e;injection e with e;omega
    ·have h5:=t2 y h
     refine h5.kept (w':=w6) (R':=fun b=>v6.ownBlock=some b) o2.size (fun b hb hlt=>o2.block b hlt (fun e=>hb (.inl ?_))) (fun b hb e=>?_)
     ·have:=hlow0 b e.symm
      exact ⟨qM this.2 hBa.out.size,this.1⟩
     ·rcases o3 with o | o
      ·rw[o] at e
       have:=hlow0 b e
       exact .inl ⟨qM this.2 hBa.out.size,this.1⟩
      ·rw[o] at e;injection e with e;omega
   have hin:InL L (ss++ts):=fun y hy=>by
    rcases List.mem_append.1 hy with h | h
    ·exact s4 y h
    ·exact zsJ t3 HXl.out hgL'.out y h
   have hLe:=zrc (ss++ts) 200 v6 w.heap.size w6 o1' hok (by rw[qF];omega) (fun y hy=>by have:=zg9 hL'.out (hok y hy).2.1.1 (hin y hy);have:=h9'.out;omega) (by omega)
   have HLe:=zqh hLe
   have HR6:=zqh hr6
   have HB5:=zqh hb5
   have HO2:=zqh o2
   have HLow:=zqh hlow
   have HIn:=zqh hin
   have HOk:=zqh hok
   have HS5:=zqh s5
   have HT3:=zqh t3
   clear hLe hr6 hb5 o1 o1' o2 o3 hlow hlow0 hin hok s1 s1' s2 s3 s4 s5 t1 t2 t3 t4 hread hti htz hts htb htl hsl hgl
   go_wp2_with (first | (at_builtin;refine Lib.wpList_append_run _ rfl _ _ _ _ rfl _ _ rfl rfl v6 w6 HR6.out ?_) | fail)
   refine HLe.out.mono ?_
   rintro e w7 ⟨v7,r,rfl,l1,⟨l2,l3⟩,_,l4,l5⟩
   have hv7:∃A7 c7,v7=.slice A7 r.length c7:=by
    rcases l1.row with ⟨rfl,rfl⟩ | ⟨g7,cap7,rfl,_⟩
    ·exact ⟨_,_,rfl⟩
    ·exact ⟨_,_,rfl⟩
   obtain ⟨A7,c7,rfl⟩:=hv7
   have HB7:Hid (Below w.heap.size w w7):=zqh (by
    have hb6:Below w.heap.size w w6:=zcC (HB.out.trans (HB5.out.mono HBs.out)) (qH HBs.out HB5.out.size) HO2.out (fun k e=>(HLow.out k e).1)
    exact zcC hb6 hb6.size l5 (fun k e=>by rw[<-l2] at e;exact (World.ownsRow.lt l1 k e).1))
   rcases l4 with ⟨hrl,l4⟩ | hrl
   ·have hle:¬((r.length:Int) > 200):=by omega
    have L1:=zqh l1
    have L3:=zqh l3
    have L4:=zqh l4
    have L2:=zqh l2
    have HRl:=zqh hrl
    clear l1 l2 l3 l4 l5 hrl
    go_wp2_with fail
    refine ⟨⟨i+1,by omega,by go_num,zqh ⟨r,L1.out,?_,L4.out.1,zlf L4.out HIn.out,HRl.out,fun on=>?_⟩,HB7⟩,by simp[intOf];omega⟩
    ·intro y hy
     exact L3.out (fun b=>(Value.slice A7 r.length c7).ownBlock=some b) (fun b e=>by rw[L2.out];exact e) (fun z hz=>(HOk.out z hz).forget (fun b _ e=>by rw[<-L2.out];exact e)) y hy
    ·have e1:zbJ [x]=[x.l]:=rfl
     rw[L4.out.holds on]
     show zap (zbJ (ss++ts)) on=_
     rw[zle,zha,HS5.out on,zmh HT3.out on,zct fs i hlt,zle,zha,(List.getElem?_eq_some_iff.1 HXi.out).2,e1,ze2]
     cases zap (zbJ (fs.take i)) on<;>cases zc1 x.l on<;>cases zap (zbJ gs) on<;>rfl
   ·have hle:(r.length:Int) > 200:=by omega
    clear l1 l2 l3 l5 hrl
    go_wp2_with fail
    exact yD (v:=.tuple #[.slice none 0 0,.bool false]) (by simp[results,Tryz.results183,go_sem]) rfl ⟨_,[],false,rfl,Pts.nil _ _,(fun x hx=>by cases hx),zdX.1,(fun x hx=>by cases hx),qK _,(fun h=>by cases h),HB7.out⟩
  ·obtain rfl:i=fs.length:=by omega
   go_wp2_with fail
   obtain ⟨ss,s1,s2,s3,s4,hsl,s5⟩:=HS.out
   exact yD (v:=.tuple #[_,.bool true]) (by simp[results,Tryz.results183,go_sem]) rfl ⟨_,ss,true,rfl,s1,s2,s3,s4,hsl,(fun _ on=>by rw[s5 on,qQ]),HB.out⟩
end

section
open Go.RowKit
theorem zqo {w:World} {sz:Nat} {u v:Value} {m n:Nat} {xs ys:List Value} {T:TypeId} (h:Src w sz u m xs) (h':Src w sz v n ys):zdT (w.alloc (.cells #[u,v] T)) sz (.slice (some ⟨w.heap.size,0,none⟩) 2 2) [(m,xs),(n,ys)]:=by
 have hb:Below w.heap.size w (w.alloc (.cells #[u,v] T)):=zqb
 have hA:=At.new w T #[u,v]
 refine ⟨_,2,rfl,qL _,by omega,fun _=>⟨w.heap.size,0,rfl,hA.lt,fun j hj=>?_⟩⟩
 have hj':j<2:=hj
 match j,hj' with
 | 0,_=>exact ⟨u,hA.cell 0,h.next hb⟩
 | 1,_=>exact ⟨v,hA.cell 1,h'.next hb⟩
theorem zlg {f:Fm} (h:Fmd f):∀p∈f,Up p/\∀x∈p,0<=x:=h.up
end
end Go.Proofs.YtdmodhnhldbpnaaGreat
