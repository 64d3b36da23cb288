/- Joined: FoJ, FmSperner, FoK, FoO, FoP, FmFew, FmSpec, FoQ. -/
import Derived.Test.YtdmodhnhldbpnaaGreatMbf
import Derived.Test.YtdmodhnhldbpnaaGreatMaf
import Derived.Test.YtdmodhnhldbpnaaGreatAid
/- package formula: least. -/
set_option linter.unusedSimpArgs false
set_option linter.unusedVariables false
set_option maxHeartbeats 8000000
set_option maxRecDepth 100000
namespace Go.Proofs.YtdmodhnhldbpnaaGreat
section
open Go.RowKit
def zgp (ks ys:List Pt) (i:Nat):Nat->Option Pt:=fun j=>if j<ks.length then ks[j]? else if i<=j then ys[j]? else none
theorem zcY (w:World) (g k cap b c:Nat) (x:Value) (m:Int) (ty:TypeId) (hx:x.oneCell'=true) (h0:w.cell? ⟨b,0,none⟩=some x) (h1:w.cell? ⟨b,1,none⟩=some (.int .u64 m)) (hk:k+1<=cap)
  (hc:∀j,j<2->(w.cell? ⟨g,k*2+j,none⟩).isSome=true) (hf:∀j,j<2->w.frozen? ⟨g,k*2+j,none⟩=false) :
  (Builtin.append_ #[138,138] ty #[.slice (some ⟨g,0,none⟩) k cap,.slice (some ⟨b,0,none⟩) 1 c]).run Tryz.prog w=.ok (.slice (some ⟨g,0,none⟩) (k+1) cap) ((w.setCell ⟨g,k*2,none⟩ x).setCell ⟨g,k*2+1,none⟩ (.int .u64 m)):=by
 obtain ⟨i,hi,h2,h3,h4⟩:=yZ zdR
 have hnews:∀j u,[x,.int .u64 m][j]?=some u->w.cell? ((⟨b,0,none⟩:Addr).add j)=some u:=fun j u hu=>by
  rw[show (⟨b,0,none⟩:Addr).add j=⟨b,0+j,none⟩ by unfold Addr.add;split<;>simp_all,yH]
  rcases j with _ | _ | j
  ·rw[h0];simpa using hu
  ·rw[h1];simpa using hu
  ·simp at hu
 have hfc:=run_firstCells_some (P:=Tryz.prog) w i.size 1 ⟨b,0,none⟩ 1 c [x,.int .u64 m] (by rw[h3];rfl) hnews
 have hst:=run_storeCells_cells (P:=Tryz.prog) g (k*2) [x,.int .u64 m] 0 w (by simpa using hc) (by simpa using hf) (by intro v hv;simp at hv;rcases hv with rfl | rfl;exact hx;rfl)
 simp only[Nat.add_zero] at hst
 rw[h3] at hfc
 simp[Builtin.append_,yI Tryz.underlying138,sizeOf,typeInfo,hi,Builtin.lenOf,hk,hfc,Addr.add_lit,h3,hst]
 rfl
theorem zg8 (w:World) (fv:Value):Calls Tryz.prog 141 #[.slice none 0 0,fv] w fun e w'=>e=.returned (.slice none 0 0)/\w'=w:=by
 go_enter Tryz.func141,Tryz.ntmps141
 go_wp2_with fail
 go_ret
 exact ⟨rfl,rfl⟩
theorem zdX:zeH [] []:=⟨⟨(fun p hp=>by cases hp),List.Pairwise.nil,(fun p hp=>by cases hp)⟩,(fun p hp=>by cases hp),(fun p hp=>by cases hp)⟩
theorem zra {D:Array Pt} {xs:List Pt} (hp:D.toList.Perm xs) (ho:∀i j,i<j->j<D.size->za7 (D[j]!).l (D[i]!).l=false) (hu:∀x∈xs,Up x.l) :
  Srt (zcD (·.l) D D.size)/\(∀y∈zcD (·.l) D D.size,y∈xs)/\∀x∈xs,∃y∈zcD (·.l) D D.size,y.l=x.l:=by
 have hm:∀i,i<D.size->D[i]! ∈ xs:=fun i hi=>hp.mem_iff.1 (by rw[getElem!_pos D i hi];exact Array.getElem_mem_toList hi)
 obtain ⟨h1,h2⟩:=zio (key:=fun x:Pt=>x.l) (R:=fun a b=>za7 a b=true) (d:=D) (n:=D.size) (fun a h=>by rw[zd4] at h;cases h) (fun a b c h h'=>zcl h h') (fun i j hij hj=>by
  have:=ho i j hij hj
  rcases zhx (D[i]!).l (D[j]!).l with h | h | h
  ·exact .inl h
  ·rw[this] at h;cases h
  ·exact .inr h) D.size zqn
 have hin:∀y∈zcD (·.l) D D.size,y∈xs:=fun y hy=>by
  obtain ⟨i,hi,rfl⟩:=zg0 hy
  exact hm i hi
 refine ⟨⟨by rwa [List.pairwise_map] at h1,fun x hx=>hu x (hin x hx)⟩,hin,fun x hx=>?_⟩
 have:=hp.mem_iff.2 hx
 obtain ⟨i,hi,e⟩:=List.mem_iff_getElem.1 this
 obtain ⟨y,hy,e2⟩:=h2 i (by simpa using hi)
 refine ⟨y,hy,e2.trans ?_⟩
 rw[getElem!_pos D i (by simpa using hi),<-e];simp
theorem zaO {w w1 w2:World} {row:Option Nat} (h:w.grownBy w1 row) (hb:Below w1.heap.size w1 w2):w.grownBy w2 row :=
 ⟨hb.os.trans h.os,hb.tape.trans h.tape,hb.output.trans h.output,qH h.size hb.size,fun k hk hne=>(hb.block k (qM hk h.size)).trans (h.block k hk hne)⟩
theorem zgq {ks ys:List Pt} {i k:Nat} (hle:k<=i):∀j y,zgp ks ys (i+1) j=some y->zgp ks ys i j=some y:=by
 intro j y e
 unfold zgp at *
 by_cases h:j<ks.length
 ·rw[if_pos h] at *;exact e
 ·rw[if_neg h] at *
  by_cases h2:i+1<=j
  ·rw[if_pos h2] at e;rw[if_pos (by omega)];exact e
  ·rw[if_neg h2] at e;cases e
theorem zed {ks ys:List Pt} {i k:Nat} {x:Pt} (hk:ks.length=k) (hle:k<=i) (hx:ys[i]?=some x):∀j y,zgp (ks++[x]) ys (i+1) j=some y->(if j=k then some x else zgp ks ys i j)=some y:=by
 intro j y e
 unfold zgp at *
 by_cases hj:j=k
 ·subst hj
  rw[if_pos rfl]
  rw[if_pos (by simp;omega)] at e
  rw[yK (by omega),hk] at e
  simpa using e
 ·rw[if_neg hj]
  by_cases h:j<ks.length
  ·rw[if_pos h]
   rw[if_pos (by simp;omega),jP h] at e
   exact e
  ·rw[if_neg h]
   rw[if_neg (by simp;omega)] at e
   by_cases h2:i+1<=j
   ·rw[if_pos h2] at e;rw[if_pos (by omega)];exact e
   ·rw[if_neg h2] at e;cases e
theorem zue (xs:List Pt) (most:Nat) (v:Value) (base:Nat) (w:World) (h:Pts w base v xs) (hx:∀x∈xs,zbB w (fun b=>v.ownBlock=some b) x) (hl:xs.length<=1000000) (hl2:∀x∈xs,x.l.length<=1000000) (hm63:most<=9223372036854775807)
  (hmost:∀r:Fm,Fmd r->(∀p∈r,∃x∈xs,x.l=p)->r.length<=most) :
  Calls Tryz.prog 100 #[v,.int .i64 most] w fun e w'=>∃v' r,e=.returned v'/\Pts w' base v' r/\(v'.ownBlock=v.ownBlock/\∀R,(∀b,v.ownBlock=some b->R b)->(∀x∈xs,zbB w R x)->∀x∈r,zbB w' R x)/\zeH xs r/\w.grownBy w' v.ownBlock:=by
 rcases h.row with ⟨rfl,rfl⟩ | ⟨g,cap,rfl,hn,hcm,hb,hr⟩
 ·go_enter Tryz.func100,Tryz.ntmps100
  have hN:=Proofs.AnyF.slices_SortFunc_none zbN none 0 (.func (.func 140) #[] #[])
  change ∀w,Calls Tryz.prog 139 _ _ _ at hN
  go_wp2_with fail
  refine (hN _).mono ?_
  rintro e w1 ⟨rfl,rfl⟩
  clear hN
  go_wp2_with fail
  refine (zg8 _ _).mono ?_
  rintro e w1 ⟨rfl,rfl⟩
  go_wp2_with fail
  go_loopw [7,18] (fun u v wr=>u=.slice none 0 0/\v=.int .i64 0/\w1=wr) (fun _ v _=>0)
  case atStart=>exact ⟨rfl,rfl,rfl⟩
  case round =>
   obtain ⟨rfl,rfl,rfl⟩:=hrel
   go_wp2_with fail
   go_ret
   exact ⟨_,[],rfl,h,⟨rfl,fun R _ _ x hx=>by cases hx⟩,zdX,⟨rfl,rfl,rfl,qL _,fun _ _ _=>rfl⟩⟩
 ·have hcap:cap<=9223372036854775807:=by unfold maxLen at hcm;omega
  have HCm:=zqh hcm
  have HX:=zqh hx
  have HMost:=zqh hmost
  have HL2:=zqh hl2
  have hS:=zhL xs w g cap cap hr (fun x hx'=>(hx x hx').forget (fun b _ e=>by rw[e];rfl)) hn (by omega)
  go_enter Tryz.func100,Tryz.ntmps100
  clear hx hmost hl2 hcm h hr
  go_wp2_with fail
  refine hS.mono ?_
  rintro e w1 ⟨rfl,d,hperm,hord,hr1,n1,os1,hw1⟩
  have hg1:w.grownBy w1 (some g):=by rw[hw1];exact zdV d
  have hsz:d.size=xs.length:=by have:=hperm.length_eq;simpa using this
  clear hw1 hS
  obtain ⟨D,hD⟩:∃D:Array Pt,d.map (·.val)=D:=⟨_,rfl⟩
  have hDs:D.size=xs.length:=by rw[<-hD];simpa using hsz
  have hDp:D.toList.Perm xs:=by rw[<-hD];simpa using hperm
  have hDa:∀j,j<D.size->D[j]! = (d[j]!).val:=fun j hj=>by
   have hj':j<d.size:=by omega
   rw[getElem!_pos D j hj,getElem!_pos d j hj']
   simp[<-hD]
  have hDr:RowF w1 g cap (fun j=>D[j]?):=hr1.weaken (fun j x e=>by rw[<-hD,Array.getElem?_map] at e;exact e)
  have hDo:∀j,j<D.size->zbB w1 (fun b=>b=g) D[j]! := fun j hj=>by rw[hDa j hj];exact ((d[j]!).property).grown hg1 (fun k e=>by injection e with e;exact e.symm)
  obtain ⟨hsrt,hin,hcov⟩:=zra hDp (fun i j hij hj=>by rw[hDa j hj,hDa i (by omega)];exact hord i j hij (by omega)) (fun x hx=>(HX.out x hx).2.1.1)
  have hcl:=zjj (key:=fun x:Pt=>x.l) D D.size
  have hC:=zfq D w1 g cap cap hDr hDo (by omega) (by omega) (by omega) hcap
  rw[hDs] at hC
  obtain ⟨ys,hys⟩:∃ys,zcD (·.l) D D.size=ys:=⟨_,rfl⟩
  rw[hys] at hsrt hin hcov hcl
  rw[<-hDs,hys,hDs] at hC
  have HC:=zqh hC
  have HSrt:=zqh hsrt
  have HIn:=zqh hin
  have HCov:=zqh hcov
  have HG1:=zqh hg1
  have hyl:ys.length<=xs.length:=by omega
  clear hperm hord hr1 hsz hD hDs hDp hDa hDr hDo hsrt hin hcov hcl hC hys hg1
  go_wp2_with fail
  refine HC.out.mono ?_
  rintro e w2 ⟨rfl,hr2,hg2⟩
  have HG2:=zqh (zbo HG1.out hg2)
  have HR2:=zqh hr2
  clear hr2 hg2
  go_wp2_with fail
  go_loopw [5,6,7,18] (fun s5 s6 s7 s18 wr=>∃(i len sh k:Nat),i<=ys.length/\s5=.int .i64 len/\s6=.int .i64 sh/\s7=.slice (some ⟨g,0,none⟩) k cap/\s18=.int .i64 i/\Hid (∃ks:List Pt,ks.length=k/\zf4 ys ks i len sh/\RowF wr g cap (zgp ks ys i))/\Hid (w.grownBy wr (some g))) (fun _ _ _ s18 _=>ys.length-(intOf s18).toNat)
  case atStart=>exact ⟨0,0,0,0,qK _,rfl,rfl,rfl,rfl,zqh ⟨[],rfl,zf4.start ys,HR2.out.weaken (fun j x e=>by
   unfold zgp at e
   rw[if_neg (by simp),if_pos (qK _)] at e;exact e)⟩,HG2⟩
  case round =>
   obtain ⟨i,len,sh,k,hi,rfl,rfl,rfl,rfl,HK,HG⟩:=hrel
   by_cases hlt:i<ys.length
   ·have h1:(0:Int)<=(i:Int):=by omega
    have h2:(i:Int)<(ys.length:Int):=by omega
    obtain ⟨ks,hk,hK,hR⟩:=HK.out
    obtain ⟨x,hxe⟩:∃x,ys[i]=x:=⟨_,rfl⟩
    have hxq:ys[i]?=some x:=by rw[<-hxe];exact qI hlt
    have HKle:Hid (k<=i):=zqh (by have:=hK.le;omega)
    obtain ⟨c0,c1⟩:=hR.cell (j:=i) (x:=x) (by unfold zgp;rw[if_neg (by have:=hK.le;omega),if_pos zqn];exact hxq)
    have HXm:Hid (x∈xs):=zqh (HIn.out x (by rw[<-hxe];exact qG hlt))
    have HXo:Hid (zbB wr (fun b=>some g=some b) x):=zqh ((HX.out x HXm.out).grown HG.out (fun b e=>e))
    have HKm:Hid (∀y∈ks,y∈xs):=zqh (fun y hy=>HIn.out y (qP (hK.sub.subset hy)))
    obtain ⟨Ax,cx,hv,_⟩:=HXo.out.1
    obtain ⟨xv,hxv⟩:∃xv,x.v=xv:=⟨_,rfl⟩
    rw[hxv] at hv c0
    subst hv
    have HXv:=zqh hxv
    have HXe:=zqh hxe
    have HXq:=zqh hxq
    have HKl:=zqh hk
    have HKi:=zqh hK
    have HR:=zqh hR
    have hBa:Below wr.heap.size wr (wr.alloc (.cells #[.slice Ax x.l.length cx,.int .u64 x.m] 171)):=zqb
    have hbox:At (wr.alloc (.cells #[.slice Ax x.l.length cx,.int .u64 x.m] 171)) wr.heap.size 171 #[.slice Ax x.l.length cx,.int .u64 x.m]:=At.new _ _ _
    have hkc:k<=cap:=by have:=HKle.out;omega
    have hxl:x.l.length<=1000000:=HL2.out x HXm.out
    clear hK hR hxv hxe hxq hk
    by_cases hll:len<x.l.length
    ·have hll1:(x.l.length:Int) > (len:Int):=by omega
     have hsh:k<=k:=qL _
     have hst:Hid (KAt ys ks i k hlt):=zqh (by have:=HKi.out.up HSrt.out hlt (by rw[HXe.out];exact hll);rwa [HKl.out] at this)
     have zz1:(k:Int)<=(cap:Int):=by omega
     have zz2:(0:Int)<=(k:Int):=by omega
     go_wp2_with fail
     try go_wp2_with fail
     have hBd:Below wr.heap.size wr (wr.alloc (.cells #[.slice Ax x.l.length cx,.int .u64 x.m] 171)).drew:=yF hBa
     have hps:zdC (wr.alloc (.cells #[.slice Ax x.l.length cx,.int .u64 x.m] 171)).drew (.slice (some ⟨g,0,none⟩) k cap) (ks.take k):=by
      have hlen:(ks.take k).length=k:=by rw[jR];have:=HKl.out;omega
      have hrr:RowF (wr.alloc (.cells #[.slice Ax x.l.length cx,.int .u64 x.m] 171)).drew g cap (zgp ks ys i):=HR.out.next hBd
      refine ⟨⟨some ⟨g,0,none⟩,cap,by rw[hlen],by rw[hlen];omega,hcap,fun _=>⟨g,cap,rfl,by rw[hlen];omega,hrr.weaken (fun j y e=>?_)⟩⟩,fun y hy=>?_⟩
      ·have hj:j<k:=by have:=(List.getElem?_eq_some_iff.1 e).1;omega
       rw[jV hj] at e
       unfold zgp;rw[if_pos (by have:=HKl.out;omega)];exact e
      ·have hy':=HKm.out y (qP hy)
       exact (((HX.out y hy').grown HG.out (fun b e=>e)).below hBd).forget (fun _ _ h=>h.elim)
     have hone:=zg7 x (ks.take k) (some ⟨g,0,none⟩) k cap _ (wr.alloc (.cells #[.slice Ax x.l.length cx,.int .u64 x.m] 171)).drew (HXo.out.below hBd) hps (fun y hy=>by
      rcases List.mem_cons.1 hy with rfl | hy
      ·have:=HL2.out _ HXm.out;omega
      ·have:=HL2.out y (HKm.out y (qP hy));omega)
     rw[HXv.out] at hone
     obtain ⟨r,hrr⟩:∃r,(ks.take k).any (fun q=>zg5 q.l x.l)=r:=⟨_,rfl⟩
     have HRr:=zqh hrr
     rw[hrr] at hone
     have HOne:=zqh hone
     have HBa:=zqh hBd
     have HBox:=zqh hbox
     have b0:(wr.alloc (.cells #[.slice Ax x.l.length cx,.int .u64 x.m] 171)).drew.cell? ⟨wr.heap.size,0,none⟩=some (.slice Ax x.l.length cx):=hbox.cell 0
     have b1:(wr.alloc (.cells #[.slice Ax x.l.length cx,.int .u64 x.m] 171)).drew.cell? ⟨wr.heap.size,1,none⟩=some (.int .u64 x.m):=hbox.cell 1
     clear hps hone c0 c1 hBa hbox hBd hrr
     cases r
     ·go_region_with (first
       |(go_at_call 144;(with_reducible refine (HOne.out).mono ?_);rintro e w3 ⟨rfl,hb3⟩
         have HB3:=zqh (HBa.out.trans (hb3.mono HBa.out.size))
         have HBox3:=zqh ((HBox.out.drew).below hb3 HBox.out.lt)
         have HR3:=zqh (HR.out.next HB3.out)
         have HG3:Hid (w.grownBy w3 (some g)):=zqh (zaO HG.out HB3.out)
         have hw3:Hid (wr.heap.size<w3.heap.size):=zqh (qM HBox.out.lt hb3.size)
         clear hb3))
      clear b0 b1
      have d0:=HBox3.out.cell 0
      have d1:=HBox3.out.cell 1
      have hkk:k+1<=cap:=by have:=HKle.out;omega
      have hap:=zcY (w3.alloc (.cells #[.slice Ax x.l.length cx,.int .u64 x.m] 171)) g k cap w3.heap.size 1 (.slice Ax x.l.length cx) x.m 138 rfl ((At.new _ _ _).cell 0) ((At.new _ _ _).cell 1) hkk (fun j hj=>(HR3.out.next (zqb)).some (by omega)) (fun j hj=>(HR3.out.next (zqb)).free _)
      have hkn:Hid (zf4 ys (ks++[x]) (i+1) x.l.length k):=zqh (by
       have:=hst.out.keep HSrt.out (by rw[HXe.out];exact HRr.out)
       rwa [HXe.out] at this)
      have hle:(k:Int)+1<=(most:Int):=by
       have:=HMost.out _ (hkn.out.fmd HSrt.out (fun y hy n hn=>((HX.out y (HIn.out y hy)).2.1.2 n hn).1)) (fun q hq=>by
        obtain ⟨y,hy,rfl⟩:=List.mem_map.1 hq
        exact ⟨y,HIn.out y (qP (hkn.out.sub.subset hy)),rfl⟩)
       have h3:=HKl.out
       simp at this
       omega
      have hle2:¬((k:Int)+1 > (most:Int)):=by omega
      have HAp:=zqh hap
      clear hap hkk hle
      go_wp2_with (first | (at_builtin;refine Lib.wpList_append_run _ rfl _ _ _ _ rfl _ _ rfl rfl _ _ HAp.out ?_) | fail)
      refine ⟨⟨i+1,x.l.length,k,k+1,by omega,rfl,rfl,by first | rfl | (congr 1;omega),by go_num,zqh ⟨ks++[x],by have:=HKl.out;simp;omega,hkn.out,?_⟩,zqh ?_⟩,by simp[intOf];omega⟩
      ·have h3:=(HR3.out.next ((qT _ _).alloc zqn (.cells #[.slice Ax x.l.length cx,.int .u64 x.m] 171))).put (i:=k) (by have:=HKle.out;omega) x
       rw[HXv.out] at h3
       exact h3.weaken (zed HKl.out HKle.out HXq.out)
      ·exact zbo (zaO HG3.out (zqb)) (zdS _ g (k*2) (k*2+1) _ _)
     ·go_region_with (first
       |(go_at_call 144;(with_reducible refine (HOne.out).mono ?_);rintro e w3 ⟨rfl,hb3⟩
         have HB3:=zqh (HBa.out.trans (hb3.mono HBa.out.size))
         have HBox3:=zqh ((HBox.out.drew).below hb3 HBox.out.lt)
         have HR3:=zqh (HR.out.next HB3.out)
         have HG3:Hid (w.grownBy w3 (some g)):=zqh (zaO HG.out HB3.out)
         have hw3:Hid (wr.heap.size<w3.heap.size):=zqh (qM HBox.out.lt hb3.size)
         clear hb3))
      clear b0 b1
      have hkn:Hid (zf4 ys ks (i+1) x.l.length k):=zqh (by
       have:=hst.out.drop HSrt.out (by rw[HXe.out];exact HRr.out)
       rwa [HXe.out] at this)
      have hle2:¬((k:Int) > (most:Int)):=by
       have:=HMost.out _ (hkn.out.fmd HSrt.out (fun y hy n hn=>((HX.out y (HIn.out y hy)).2.1.2 n hn).1)) (fun q hq=>by
        obtain ⟨y,hy,rfl⟩:=List.mem_map.1 hq
        exact ⟨y,HIn.out y (qP (hkn.out.sub.subset hy)),rfl⟩)
       have h3:=HKl.out
       simp at this
       omega
      go_wp2_with fail
      refine ⟨⟨i+1,x.l.length,k,k,by omega,rfl,rfl,rfl,by go_num,zqh ⟨ks,HKl.out,hkn.out,HR3.out.weaken (zgq HKle.out)⟩,HG3⟩,by simp[intOf];omega⟩
    ·have hll1:¬((x.l.length:Int) > (len:Int)):=by omega
     obtain ⟨hka,hle0⟩:=HKi.out.stay HSrt.out hlt (by rw[HXe.out];exact hll)
     rw[HXe.out] at hle0
     have HKa:=zqh hka
     clear hka
     subst hle0
     have hsh:sh<=k:=(by have:=HKi.out.shle;have:=HKl.out;omega)
     have hst:Hid (KAt ys ks i sh hlt):=zqh HKa.out
     have zz1:(sh:Int)<=(cap:Int):=by omega
     have zz2:(0:Int)<=(sh:Int):=by omega
     go_wp2_with fail
     try go_wp2_with fail
     have hBd:Below wr.heap.size wr (wr.alloc (.cells #[.slice Ax x.l.length cx,.int .u64 x.m] 171)).drew:=yF hBa
     have hps:zdC (wr.alloc (.cells #[.slice Ax x.l.length cx,.int .u64 x.m] 171)).drew (.slice (some ⟨g,0,none⟩) sh cap) (ks.take sh):=by
      have hlen:(ks.take sh).length=sh:=by rw[jR];have:=HKl.out;omega
      have hrr:RowF (wr.alloc (.cells #[.slice Ax x.l.length cx,.int .u64 x.m] 171)).drew g cap (zgp ks ys i):=HR.out.next hBd
      refine ⟨⟨some ⟨g,0,none⟩,cap,by rw[hlen],by rw[hlen];omega,hcap,fun _=>⟨g,cap,rfl,by rw[hlen];omega,hrr.weaken (fun j y e=>?_)⟩⟩,fun y hy=>?_⟩
      ·have hj:j<sh:=by have:=(List.getElem?_eq_some_iff.1 e).1;omega
       rw[jV hj] at e
       unfold zgp;rw[if_pos (by have:=HKl.out;omega)];exact e
      ·have hy':=HKm.out y (qP hy)
       exact (((HX.out y hy').grown HG.out (fun b e=>e)).below hBd).forget (fun _ _ h=>h.elim)
     have hone:=zg7 x (ks.take sh) (some ⟨g,0,none⟩) sh cap _ (wr.alloc (.cells #[.slice Ax x.l.length cx,.int .u64 x.m] 171)).drew (HXo.out.below hBd) hps (fun y hy=>by
      rcases List.mem_cons.1 hy with rfl | hy
      ·have:=HL2.out _ HXm.out;omega
      ·have:=HL2.out y (HKm.out y (qP hy));omega)
     rw[HXv.out] at hone
     obtain ⟨r,hrr⟩:∃r,(ks.take sh).any (fun q=>zg5 q.l x.l)=r:=⟨_,rfl⟩
     have HRr:=zqh hrr
     rw[hrr] at hone
     have HOne:=zqh hone
     have HBa:=zqh hBd
     have HBox:=zqh hbox
     have b0:(wr.alloc (.cells #[.slice Ax x.l.length cx,.int .u64 x.m] 171)).drew.cell? ⟨wr.heap.size,0,none⟩=some (.slice Ax x.l.length cx):=hbox.cell 0
     have b1:(wr.alloc (.cells #[.slice Ax x.l.length cx,.int .u64 x.m] 171)).drew.cell? ⟨wr.heap.size,1,none⟩=some (.int .u64 x.m):=hbox.cell 1
     clear hps hone c0 c1 hBa hbox hBd hrr
     cases r
     ·go_region_with (first
       |(go_at_call 144;(with_reducible refine (HOne.out).mono ?_);rintro e w3 ⟨rfl,hb3⟩
         have HB3:=zqh (HBa.out.trans (hb3.mono HBa.out.size))
         have HBox3:=zqh ((HBox.out.drew).below hb3 HBox.out.lt)
         have HR3:=zqh (HR.out.next HB3.out)
         have HG3:Hid (w.grownBy w3 (some g)):=zqh (zaO HG.out HB3.out)
         have hw3:Hid (wr.heap.size<w3.heap.size):=zqh (qM HBox.out.lt hb3.size)
         clear hb3))
      clear b0 b1
      have d0:=HBox3.out.cell 0
      have d1:=HBox3.out.cell 1
      have hkk:k+1<=cap:=by have:=HKle.out;omega
      have hap:=zcY (w3.alloc (.cells #[.slice Ax x.l.length cx,.int .u64 x.m] 171)) g k cap w3.heap.size 1 (.slice Ax x.l.length cx) x.m 138 rfl ((At.new _ _ _).cell 0) ((At.new _ _ _).cell 1) hkk (fun j hj=>(HR3.out.next (zqb)).some (by omega)) (fun j hj=>(HR3.out.next (zqb)).free _)
      have hkn:Hid (zf4 ys (ks++[x]) (i+1) x.l.length sh):=zqh (by
       have:=hst.out.keep HSrt.out (by rw[HXe.out];exact HRr.out)
       rwa [HXe.out] at this)
      have hle:(k:Int)+1<=(most:Int):=by
       have:=HMost.out _ (hkn.out.fmd HSrt.out (fun y hy n hn=>((HX.out y (HIn.out y hy)).2.1.2 n hn).1)) (fun q hq=>by
        obtain ⟨y,hy,rfl⟩:=List.mem_map.1 hq
        exact ⟨y,HIn.out y (qP (hkn.out.sub.subset hy)),rfl⟩)
       have h3:=HKl.out
       simp at this
       omega
      have hle2:¬((k:Int)+1 > (most:Int)):=by omega
      have HAp:=zqh hap
      clear hap hkk hle
      go_wp2_with (first | (at_builtin;refine Lib.wpList_append_run _ rfl _ _ _ _ rfl _ _ rfl rfl _ _ HAp.out ?_) | fail)
      refine ⟨⟨i+1,x.l.length,sh,k+1,by omega,rfl,rfl,by first | rfl | (congr 1;omega),by go_num,zqh ⟨ks++[x],by have:=HKl.out;simp;omega,hkn.out,?_⟩,zqh ?_⟩,by simp[intOf];omega⟩
      ·have h3:=(HR3.out.next ((qT _ _).alloc zqn (.cells #[.slice Ax x.l.length cx,.int .u64 x.m] 171))).put (i:=k) (by have:=HKle.out;omega) x
       rw[HXv.out] at h3
       exact h3.weaken (zed HKl.out HKle.out HXq.out)
      ·exact zbo (zaO HG3.out (zqb)) (zdS _ g (k*2) (k*2+1) _ _)
     ·go_region_with (first
       |(go_at_call 144;(with_reducible refine (HOne.out).mono ?_);rintro e w3 ⟨rfl,hb3⟩
         have HB3:=zqh (HBa.out.trans (hb3.mono HBa.out.size))
         have HBox3:=zqh ((HBox.out.drew).below hb3 HBox.out.lt)
         have HR3:=zqh (HR.out.next HB3.out)
         have HG3:Hid (w.grownBy w3 (some g)):=zqh (zaO HG.out HB3.out)
         have hw3:Hid (wr.heap.size<w3.heap.size):=zqh (qM HBox.out.lt hb3.size)
         clear hb3))
      clear b0 b1
      have hkn:Hid (zf4 ys ks (i+1) x.l.length sh):=zqh (by
       have:=hst.out.drop HSrt.out (by rw[HXe.out];exact HRr.out)
       rwa [HXe.out] at this)
      have hle2:¬((k:Int) > (most:Int)):=by
       have:=HMost.out _ (hkn.out.fmd HSrt.out (fun y hy n hn=>((HX.out y (HIn.out y hy)).2.1.2 n hn).1)) (fun q hq=>by
        obtain ⟨y,hy,rfl⟩:=List.mem_map.1 hq
        exact ⟨y,HIn.out y (qP (hkn.out.sub.subset hy)),rfl⟩)
       have h3:=HKl.out
       simp at this
       omega
      go_wp2_with fail
      refine ⟨⟨i+1,x.l.length,sh,k,by omega,rfl,rfl,rfl,by go_num,zqh ⟨ks,HKl.out,hkn.out,HR3.out.weaken (zgq HKle.out)⟩,HG3⟩,by simp[intOf];omega⟩
   ·obtain rfl:i=ys.length:=by omega
    go_wp2_with fail
    go_ret
    obtain ⟨ks,hk,hK,hR⟩:=HK.out
    have hmem:∀x∈ks,x∈xs:=fun x hx=>HIn.out x (qP (hK.sub.subset hx))
    have hown:=hR.own (base:=base) ks (fun j hj=>by unfold zgp;rw[if_pos hj];exact qI hj) (by have:=hK.le;omega) HCm.out hb
    rw[hk] at hown
    refine ⟨_,ks,rfl,hown,⟨rfl,fun R hR hP x hx=>(hP x (hmem x hx)).grown HG.out (fun b e=>hR b e)⟩,⟨hK.fmd HSrt.out (fun x hx n hn=>((HX.out x (HIn.out x hx)).2.1.2 n hn).1),fun p hp=>⟨p,hmem p hp,rfl⟩,fun x hx=>?_⟩,HG.out⟩
    obtain ⟨y,hy,e⟩:=HCov.out x hx
    obtain ⟨p,hp,e2⟩:=hK.cov y (by rw[qQ];exact hy)
    exact ⟨p,hp,fun z hz=>by rw[<-e];exact e2 z hz⟩
end

section
end

section
open Go.RowKit
def InL (L:List Int) (xs:List Pt):Prop:=∀x∈xs,∀n∈x.l,n∈L
abbrev zbJ (xs:List Pt):Fm:=xs.map (·.l)
theorem zle (a b:List Pt):zbJ (a++b)=zbJ a++zbJ b:=jE
theorem zg9 {L:List Int} (hL:Up L) {p:List Int} (hp:Up p) (h:∀n∈p,n∈L):p.length<=L.length:=(up_sub L p hp hL h).length_le
theorem zha (f g:Fm) (on:List Int):zap (f++g) on=(zap f on||zap g on):=by unfold zap;rw[yX]
theorem zmh {p:Pt} {gs ts:List Pt} (h:zlc p gs ts) (on:List Int):zap (zbJ ts) on=(zc1 p.l on&&zap (zbJ gs) on):=by
 rcases h with ⟨ha,rfl⟩ | ⟨_,hl,ht⟩
 ·obtain ⟨q,hq,e⟩:=List.any_eq_true.1 ha
  rw[qZ,qR,zbE,zbE,zdp]
  constructor
  ·rintro ⟨x,hx,e2⟩
   have:x=p.l:=by simpa using hx
   subst this
   exact ⟨e2,q.l,List.mem_map.2 ⟨q,hq,rfl⟩,fun z hz=>e2 z (zg6.1 e z hz)⟩
  ·rintro ⟨e2,_⟩
   exact ⟨p.l,by simp,e2⟩
 ·rw[qZ,qR,zbE,zbE,zdp]
  constructor
  ·rintro ⟨x,hx,e2⟩
   obtain ⟨t,htm,rfl⟩:=List.mem_map.1 hx
   obtain ⟨j,hj,rfl⟩:=List.mem_iff_getElem.1 htm
   obtain ⟨h1,_⟩:=ht j hj (by omega)
   exact ⟨fun z hz=>e2 z ((h1 z).2 (.inl hz)),gs[j].l,List.mem_map.2 ⟨_,qG (by omega),rfl⟩,fun z hz=>e2 z ((h1 z).2 (.inr hz))⟩
  ·rintro ⟨e2,x,hx,e3⟩
   obtain ⟨q,hq,rfl⟩:=List.mem_map.1 hx
   obtain ⟨j,hj,rfl⟩:=List.mem_iff_getElem.1 hq
   obtain ⟨h1,_⟩:=ht j (by omega) hj
   refine ⟨ts[j].l,List.mem_map.2 ⟨_,qG (by omega),rfl⟩,fun z hz=>?_⟩
   rcases (h1 z).1 hz with h | h
   ·exact e2 z h
   ·exact e3 z h
theorem zsJ {p:Pt} {gs ts:List Pt} {L:List Int} (h:zlc p gs ts) (hp:∀n∈p.l,n∈L) (hg:InL L gs):InL L ts:=by
 rcases h with ⟨_,rfl⟩ | ⟨_,hl,ht⟩
 ·intro x hx n hn
  rw[List.mem_singleton.1 hx] at hn;exact hp n hn
 ·intro x hx n hn
  obtain ⟨j,hj,rfl⟩:=List.mem_iff_getElem.1 hx
  rcases ((ht j hj (by omega)).1 n).1 hn with h | h
  ·exact hp n h
  ·exact hg _ (qG (by omega)) n h
theorem zqj {p:Pt} {gs ts:List Pt} (h:zlc p gs ts):ts.length<=gs.length+1:=by
 rcases h with ⟨_,rfl⟩ | ⟨_,hl,_⟩
 ·simp
 ·omega
theorem zlf {L:List Int} {xs r:List Pt} (h:zeH xs r) (hx:InL L xs):InL L r:=fun p hp n hn=>by
 obtain ⟨x,hx',e⟩:=h.2.1 p hp
 rw[<-e] at hn
 exact hx x hx' n hn
end

section
open Go.RowKit
theorem zn8:(Tryz.prog.info? 80).map (fun i=>(i.zero,i.size,i.bytes))=some (some (.slice none 0 0),1,24):=by kernel_rfl
theorem zn9 (n:Nat) (hn:n<=1000000) (w:World):(Instr.makeSlice 29 (.int .i64 (n:Int)) (.int .i64 (n:Int))).run Tryz.prog w=.ok (.slice (some ⟨w.heap.size,0,none⟩) n n) (w.alloc (.cells (madeCells #[.slice none 0 0] n) 80)):=by
 exact run_make_row' 29 80 (.slice none 0 0) 24 Tryz.underlying29 zn8 rfl .i64 .i64 n (by omega) (by omega) w
theorem zfr {w:World} {base:Nat} {v:Value} {l:List Int} (h:w.ownsRow base 3 1 v l.length (l.map (Value.int .i64))) (hI:∀x∈l,IsI x) :
  ∃A c,v=.slice A l.length c/\zak w v l/\∀b off s,A=some ⟨b,off,s⟩->base<=b:=by
 rcases h.2 with ⟨rfl,hn⟩ | ⟨g,cap,cur,rfl,hbg,hc,r1,r2,r3,r4⟩
 ·have:l=[]:=qU hn
  subst this
  exact ⟨none,0,rfl,⟨none,0,rfl,qL _,by omega,hI,fun h=>absurd h (jM _)⟩,fun b off s e=>by cases e⟩
 ·refine ⟨_,cap,rfl,⟨_,cap,rfl,r1,by unfold maxLen at r2;omega,hI,fun h0=>⟨g,0,rfl,(Array.getElem?_eq_some_iff.1 hc).1,fun j hj=>?_⟩⟩,fun b off s e=>by injection e with e;injection e with e _ _;omega⟩
  rw[yH,xZ h j (by omega),xC,qI hj,zay hj];rfl
theorem zbI {w:World} {base:Nat} {E:TypeId} {sz n:Nat} {v:Value} {xs:List Value} (h:w.ownsRow base E sz v n xs):∃A c,v=.slice A n c:=by
 rcases h.2 with ⟨rfl,rfl⟩ | ⟨g,cap,cur,rfl,_⟩
 ·exact ⟨_,_,rfl⟩
 ·exact ⟨_,_,rfl⟩
theorem zuf (w:World) (g o:Nat) (v:Value):w.grownBy (w.setCell ⟨g,o,none⟩ v) (some g) :=
 ⟨rfl,rfl,rfl,by simp[World.setCell],fun k hk hne=>jL _ ⟨g,o,none⟩ v k (fun e=>hne (by rw[e]))⟩
end

section
open Go.RowKit
theorem srt_sub {α:Type} {R:α->α->Prop} (hi:∀a,¬R a a) (ht:∀a b c,R a b->R b c->R a c):∀(m l:List α),l.Pairwise R->m.Pairwise R->(∀x∈l,x∈m)->l.Sublist m
 | [],l,_,_,h=>by
  cases l with
  | nil=>exact List.Sublist.slnil
  | cons x r=>exact absurd (h x (by simp)) (by simp)
 | y::m,[],_,_,_=>List.nil_sublist _
 | y::m,x::l,hl,hm,h=>by
  rw[List.pairwise_cons] at hl hm
  rcases List.mem_cons.1 (h x (by simp)) with e | hx
  ·subst e
   refine List.Sublist.cons_cons x (srt_sub hi ht m l hl.2 hm.2 (fun z hz=>?_))
   rcases List.mem_cons.1 (h z (by simp[hz])) with e | h'
   ·have:=hl.1 z hz;rw[e] at this;exact absurd this (hi _)
   ·exact h'
  ·refine List.Sublist.cons y (srt_sub hi ht m (x::l) (List.pairwise_cons.2 hl) hm.2 (fun z hz=>?_))
   rcases List.mem_cons.1 (h z hz) with e | h'
   ·subst e
    rcases List.mem_cons.1 hz with e | hz'
    ·rw[e];exact hx
    ·exact absurd (ht _ _ _ (hm.1 x hx) (hl.1 z hz')) (hi _)
   ·exact h'
theorem sub_of_less {l m:Fm} (hl:l.Pairwise (fun p q=>za7 p q=true)) (hm:m.Pairwise (fun p q=>za7 p q=true)) (h:∀x∈l,x∈m):l.Sublist m :=
 srt_sub (R:=fun p q=>za7 p q=true) (fun a h=>by rw[zd4] at h;cases h) (fun a b c h h'=>zcl h h') m l hl hm h
def zvd (f:Fm) (i:Nat):Prop:=∀j,j<i->upS (-1) (za5 f j)=true/\(j=0\/za7 (za5 f (j-1)) (za5 f j)=true)
theorem zug {f:Fm} (h:zvd f f.length):f.Pairwise (fun p q=>za7 p q=true)/\∀p∈f,Up p/\∀x∈p,0<=x:=by
 constructor
 ·refine zdo (R:=fun p q=>za7 p q=true) (fun a b c h h'=>zcl h h') f (fun k hk=>?_)
  have:=(h (k+1) hk).2
  rw[xF,zaz hk,zaz (by omega)] at this
  rcases this with h | h
  ·omega
  ·exact h
 ·intro p hp
  obtain ⟨j,hj,rfl⟩:=List.mem_iff_getElem.1 hp
  have:=(h j hj).1
  rw[zaz hj] at this
  obtain ⟨a,b⟩:=(zn0 _ _).1 this
  exact ⟨a,fun x hx=>by have:=b x hx;omega⟩
theorem zuh {f:Fm} (h:Fmd f):zvd f f.length:=by
 intro j hj
 constructor
 ·rw[zn0,zaz hj]
  obtain ⟨a,b⟩:=h.up _ (qG hj)
  exact ⟨a,fun x hx=>by have:=b x hx;omega⟩
 ·by_cases h0:j=0
  ·exact .inl h0
  ·right
   rw[zaz hj,zaz (by omega)]
   exact List.pairwise_iff_getElem.1 h.sorted (j-1) j (by omega) hj (by omega)
theorem zrb {f:Fm} {i:Nat} (hi:i<f.length) (h:¬(upS (-1) (za5 f i)=true/\(i=0\/za7 (za5 f (i-1)) (za5 f i)=true))):fmS f=false:=by
 rw[<-gQ]
 intro e
 exact h (zuh (ztk e) i hi)
theorem zqk {f:Fm} {ps r:List Pt} (hps:ps.map (·.l)=f) (hs:f.Pairwise (fun p q=>za7 p q=true)) (h:zeH ps r):fmS f=decide (r.length=f.length):=by
 have hin:∀p∈r.map (·.l),p∈f:=fun p hp=>by
  obtain ⟨q,hq,rfl⟩:=List.mem_map.1 hp
  obtain ⟨x,hx,e⟩:=h.2.1 q hq
  rw[<-hps,<-e];exact List.mem_map.2 ⟨x,hx,rfl⟩
 have hsub:=sub_of_less h.1.sorted hs hin
 rw[qZ,qY]
 constructor
 ·intro e
  have:=zmW h.1 (ztk e) (fun on=>by rw[h.holds on,hps])
  rw[<-this];simp
 ·intro e
  have:r.map (·.l)=f:=hsub.eq_of_length (by rw[qS];exact e)
  rw[<-this];exact ztl h.1
theorem zmi {f:Fm} {ps:List Pt} (hps:ps.map (·.l)=f) (hs:f.Pairwise (fun p q=>za7 p q=true)):∀r:Fm,Fmd r->(∀p∈r,∃x∈ps,x.l=p)->r.length<=f.length:=fun r hr hp =>
 (sub_of_less hr.sorted hs (fun p h=>by
  obtain ⟨x,hx,e⟩:=hp p h
  rw[<-hps,<-e];exact List.mem_map.2 ⟨x,hx,rfl⟩)).length_le
end

section
open Go.RowKit
end

section
open Go.RowKit
end

section
open Go.RowKit
end
end Go.Proofs.YtdmodhnhldbpnaaGreat
