/- Joined: FoI, FoN. -/
import Derived.Test.YtdmodhnhldbpnaaGreatMbe
import Derived.Lib.SliceRun
import Derived.Test.YtdmodhnhldbpnaaGreatMbd
import Derived.Test.YtdmodhnhldbpnaaGreatAid
/- package formula: slices.CompactFunc of parts. -/
set_option linter.unusedSimpArgs false
set_option linter.unusedVariables false
set_option maxHeartbeats 8000000
set_option maxRecDepth 100000
namespace Go.Proofs.YtdmodhnhldbpnaaGreat
section
open Go.RowKit
theorem zsI (x y:Pt) (R R':Nat->Prop) (w:World) (hx:zbB w R x) (hy:zbB w R' y) :
  Calls Tryz.prog 142 #[.agg #[x.v,.int .u64 x.m],.agg #[y.v,.int .u64 y.m]] w fun e w'=>e=.returned (.bool (x.l==y.l))/\∃q os,w'=Sort.grow (w.drewN q) os:=by
 have HP:=zqh hx
 have HQ:=zqh hy
 obtain ⟨Ap,cp,hv,_⟩:=hx.1
 obtain ⟨Aq,cq,hv',_⟩:=hy.1
 obtain ⟨pv,hpv⟩:∃pv,x.v=pv:=⟨_,rfl⟩
 obtain ⟨qv,hqv⟩:∃qv,y.v=qv:=⟨_,rfl⟩
 rw[hpv] at hv ⊢
 rw[hqv] at hv' ⊢
 subst hv hv'
 have HPv:=zqh hpv
 have HQv:=zqh hqv
 clear hx hy hpv hqv
 go_enter Tryz.func142,Tryz.ntmps142
 have hB0:Below w.heap.size w ((w.alloc (.cells #[.slice Ap x.l.length cp,.int .u64 x.m] 171)).alloc (.cells #[.slice Aq y.l.length cq,.int .u64 y.m] 171)):=(zqb).alloc (by simp) _
 go_wp2_with fail
 have i1:zak ((w.alloc (.cells #[.slice Ap x.l.length cp,.int .u64 x.m] 171)).alloc (.cells #[.slice Aq y.l.length cq,.int .u64 y.m] 171)) (.slice Ap x.l.length cp) x.l:=by have:=HP.out.ints.next hB0;rwa [HPv.out] at this
 have i2:zak ((w.alloc (.cells #[.slice Ap x.l.length cp,.int .u64 x.m] 171)).alloc (.cells #[.slice Aq y.l.length cq,.int .u64 y.m] 171)) (.slice Aq y.l.length cq) y.l:=by have:=HQ.out.ints.next hB0;rwa [HQv.out] at this
 refine (zub x.l y.l Ap Aq _ cp _ cq _ i1 i2).mono ?_
 rintro e w3 ⟨rfl,q,rfl⟩
 go_wp2_with fail
 go_ret
 refine ⟨rfl,q,#[.cells #[.slice Ap x.l.length cp,.int .u64 x.m] 171,.cells #[.slice Aq y.l.length cq,.int .u64 y.m] 171],?_⟩
 rw[Sort.alloc_eq_grow,Sort.alloc_eq_grow,Sort.grow_grow];rfl
structure zoB (d:Array Pt) (m k:Nat) (dk:Array Pt):Prop where
 size:dk.size=d.size
 len:(zcD (·.l) d m).length=k
 lt:k<m
 low:∀j,j<k->(zcD (·.l) d m)[j]?=some dk[j]!
 high:∀j,k<=j->dk[j]! = d[j]!
theorem zhM {d:Array Pt} {m:Nat} (h:d[m]!.l≠d[m-1]!.l):zb2 (·.l) d m=true:=by simp[zb2,h]
theorem zhN {d:Array Pt} {m:Nat} (hm:0<m) (h:d[m]!.l=d[m-1]!.l):zb2 (·.l) d m=false:=by
 have:m≠0:=by omega
 simp[zb2,h,this]
theorem zhO (d:Array Pt):∀j,j<1->zb2 (·.l) d j=true:=by
 intro j hj
 have:j=0:=by omega
 subst this
 simp[zb2]
theorem zoB.start {d:Array Pt} {k0:Nat} (hall:∀j,j<k0->zb2 (·.l) d j=true) (hdup:zb2 (·.l) d k0=false):zoB d (k0+1) k0 d where
 size:=rfl
 len:=by rw[zcn,hdup,zgZ d k0 hall];simp
 lt:=xW _
 low:=fun j hj=>by rw[zcn,hdup,zgZ d k0 hall];simp[hj]
 high:=fun _ _=>rfl
theorem zoB.keep {d dk:Array Pt} {m k:Nat} (h:zoB d m k dk) (hm:m<d.size) (hk:zb2 (·.l) d m=true):zoB d (m+1) (k+1) (dk.setIfInBounds k d[m]!) where
 size:=by simp[h.size]
 len:=by rw[zcn,hk];simp[h.len]
 lt:=by have:=h.lt;omega
 low:=fun j hj=>by
  rw[zcn,hk,if_pos rfl]
  by_cases e:j=k
  ·subst e
   rw[yK (by rw[h.len];exact qL _),h.len,kK,Sort.getElem!_set_same dk j _ (by have:=h.lt;have:=h.size;omega)]
   rfl
  ·rw[jP (by rw[h.len];omega),h.low j (by omega),Sort.getElem!_set_other dk k j _ e]
 high:=fun j hj=>by rw[Sort.getElem!_set_other dk k j _ (by omega),h.high j (by omega)]
theorem zoB.skip {d dk:Array Pt} {m k:Nat} (h:zoB d m k dk) (hk:zb2 (·.l) d m=false):zoB d (m+1) k dk where
 size:=h.size
 len:=by rw[zcn,hk];simpa using h.len
 lt:=by have:=h.lt;omega
 low:=fun j hj=>by rw[zcn,hk];simpa using h.low j hj
 high:=h.high
theorem run_clear_parts (w:World) (b o n c:Nat) (hn:0<n) (hc:∀j,j<n*2->(w.cell? ⟨b,o+j,none⟩).isSome=true) (hf:∀j,j<n*2->w.frozen? ⟨b,o+j,none⟩=false) :
  ∃vs:List Value,vs.length=n*2/\∀ty,(Builtin.clear_ #[138] ty #[.slice (some ⟨b,o,none⟩) n c]).run Tryz.prog w=.ok (.tuple #[]) (w.setCells b o vs):=by
 have hl:(Builtin.zeroCells zaV n).toList.length=n*2:=by simp[Builtin.zeroCells,zaV]
 have h1:∀v∈(Builtin.zeroCells zaV n).toList,v.oneCell'=true:=by
  intro v hv
  unfold Builtin.zeroCells at hv
  simp only[Array.toList_map,yN] at hv
  obtain ⟨i,_,rfl⟩:=hv
  have:i % zaV.size=0\/i % zaV.size=1:=by show i % 2=0\/i % 2=1;omega
  rcases this with e | e<;>rw[e]<;>rfl
 have hst:=run_storeCells_cells (P:=Tryz.prog) b o (Builtin.zeroCells zaV n).toList 0 w (by rw[hl];simpa using hc) (by rw[hl];simpa using hf) h1
 simp only[Nat.add_zero] at hst
 refine ⟨_,hl,fun ty=>?_⟩
 obtain ⟨m,rfl⟩:∃m,n=m+1:=⟨n-1,by omega⟩
 have hz:(Value.agg zaV).cells=zaV:=rfl
 simp[Builtin.clear_,yI Tryz.underlying138,Tryz.zeroValue171]
 rw[show (Value.agg #[Value.slice none 0 0,Value.int IntKind.u64 0]).cells=zaV from rfl,hst];rfl
theorem zf3 {g cap:Nat} {f:Nat->Option Pt} (k:Nat):∀(vs:List Value) (o:Nat) (w:World),RowF w g cap f->k*2<=o->(∀j,k<=j->f j=none)->RowF (w.setCells g o vs) g cap f
 | [],_,_,h,_,_=>h
 | v::r,o,w,h,ho,hf=>by
  refine zf3 k r (o+1) _ ?_ (by omega) hf
  obtain ⟨cs,hA,hs,hc⟩:=h
  refine ⟨_,hA.set o v,by simp[hs],fun j x hx=>?_⟩
  have hj:j<k:=by
   by_cases e:k<=j
   ·rw[hf j e] at hx;cases hx
   ·omega
  obtain ⟨a,b,c⟩:=hc j x hx
  refine ⟨a,?_,?_⟩
  ·rw[jT (by omega)];exact b
  ·rw[jT (by omega)];exact c
theorem zdy {w wr:World} {row:Option Nat} (h:w.grownBy wr row) (n:Nat) (os:Array Obj):w.grownBy (Sort.grow (wr.drewN n) os) row :=
 ⟨h.os,h.tape,h.output,qH h.size (by simp[Sort.grow]),fun k hk hne=>by
  rw[Sort.heap_grow_old _ _ (by exact qM hk h.size)];exact h.block k hk hne⟩
theorem zbo {w w1 w2:World} {row:Option Nat} (h:w.grownBy w1 row) (h':w1.grownBy w2 row):w.grownBy w2 row :=
 ⟨h'.os.trans h.os,h'.tape.trans h.tape,h'.output.trans h.output,qH h.size h'.size,fun k hk hne=>(h'.block k (qM hk h.size) hne).trans (h.block k hk hne)⟩
theorem RowF.some {w:World} {g cap:Nat} {f:Nat->Option Pt} (h:RowF w g cap f) {i:Nat} (hi:i<cap*2):(w.cell? ⟨g,i,none⟩).isSome=true:=by
 obtain ⟨cs,hA,hs,_⟩:=h
 rw[hA.cell i,jZ (by omega)];rfl
theorem zfq (d:Array Pt) (w:World) (g cap c:Nat) (hr:RowF w g cap (fun j=>d[j]?)) (hx:∀j,j<d.size->zbB w (fun b=>b=g) d[j]!) (hn:d.size<=cap) (hl:d.size<=4000000) (hc:d.size<=c) (hc2:c<=9223372036854775807) :
  Calls Tryz.prog 141 #[.slice (some ⟨g,0,none⟩) d.size c,.func (.func 142) #[] #[]] w fun e w' =>
   e=.returned (.slice (some ⟨g,0,none⟩) (zcD (·.l) d d.size).length c)/\RowF w' g cap (fun j=>(zcD (·.l) d d.size)[j]?)/\w.grownBy w' (some g):=by
 have HX:=zqh hx
 have HRW:=zqh hr
 have mixed:=zbN.mixed
 have eg:∀args w,(callFunc 142 args).run Tryz.prog w=.ok (.enter 142 args) w:=enters_of Tryz.func142 (by kernel_rfl) rfl
 have hcls:Hid (∀(wr:World),w.grownBy wr (some g)->∀x y,zbB w (fun b=>b=g) x->zbB w (fun b=>b=g) y->∀n os,Calls Tryz.prog 142 #[.agg #[x.v,.int .u64 x.m],.agg #[y.v,.int .u64 y.m]] (Sort.grow (wr.drewN n) os) fun e w'=>e=.returned (.bool (x.l==y.l))/\∃q os',w'=Sort.grow ((Sort.grow (wr.drewN n) os).drewN q) os'):=zqh (by
  intro wr hg x y h1 h2 n os
  have hg2:wr.grownBy (Sort.grow (wr.drewN n) os) none:=⟨rfl,rfl,rfl,by simp[Sort.grow],fun k hk _=>by rw[Sort.heap_grow_old _ _ (by exact hk)];rfl⟩
  have hR:∀k,(some g:Option Nat)=some k->k=g:=fun k e=>by injection e with e;exact e.symm
  exact zsI x y _ _ _ ((h1.grown hg hR).grown hg2 (fun k e=>by cases e)) ((h2.grown hg hR).grown hg2 (fun k e=>by cases e)))
 have hcell:Hid (∀(wr:World) (cap':Nat) (f:Nat->Option Pt) (j:Nat) (x:Pt),RowF wr g cap' f->f j=some x->∀n os,(Sort.grow (wr.drewN n) os).cell? ⟨g,j*2,none⟩=some x.v/\(Sort.grow (wr.drewN n) os).cell? ⟨g,j*2+1,none⟩=some (.int .u64 x.m)):=zqh (by
  intro wr cap' f j x h e n os
  obtain ⟨a,b⟩:=h.cell e
  exact ⟨cell_grown h.lt a n os,cell_grown h.lt b n os⟩)
 have hsame:Hid ((∀j,j<d.size->zb2 (·.l) d j=true)->zcD (·.l) d d.size=d.toList):=zqh (fun h=>by rw[zgZ d _ h,Lib.range_map_get])
 clear hx hr
 by_cases h2:d.size<2
 ·have h2':(d.size:Int)<2:=by omega
  go_enter Tryz.func141,Tryz.ntmps141
  go_wp2_with fail
  go_ret
  have e1:=hsame.out (fun j hj=>zhO d j (by omega))
  rw[e1]
  refine ⟨by simp,?_,⟨rfl,rfl,rfl,qL _,fun _ _ _=>rfl⟩⟩
  simpa using HRW.out
 ·have h2':¬((d.size:Int)<2):=by omega
  go_enter Tryz.func141,Tryz.ntmps141
  go_wp2_with fail
  go_loopg [5] d.size (fun gg s5 wr=>∃k:Nat,1<=k/\k<=d.size/\d.size-k<=gg/\s5=.int .i64 k/\Hid (RowF wr g cap (fun j=>d[j]?))/\Hid (w.grownBy wr (some g))/\Hid (∀j,j<k->zb2 (·.l) d j=true))
  case atStart=>exact ⟨1,qL _,by omega,by omega,rfl,HRW,zqh ⟨rfl,rfl,rfl,qL _,fun _ _ _=>rfl⟩,zqh (zhO d)⟩
  case round =>
   obtain ⟨k,hk1,hk,hg,rfl,HR,HG,HK⟩:=hrel
   by_cases hlt:k<d.size
   ·obtain ⟨kp,rfl⟩:∃kp,k=kp+1:=⟨k-1,by omega⟩
    have hwp:IntKind.i64.wrap (kp:Int)=(kp:Int):=by rw[yY];omega
    have z1:(kp:Int)+1<(d.size:Int):=by omega
    have z2:(kp:Int)<(d.size:Int):=by omega
    have z3:(0:Int)<=(kp:Int)+1:=by omega
    have e0:((kp:Int)+1).toNat=kp+1:=by omega
    obtain ⟨x,hx⟩:∃x,d[kp+1]! = x:=⟨_,rfl⟩
    obtain ⟨y,hy⟩:∃y,d[kp]! = y:=⟨_,rfl⟩
    have hx1:d[kp+1]?=some x:=by rw[<-hx,getElem!_pos d (kp+1) hlt];exact jZ hlt
    have hy1:d[kp]?=some y:=by rw[<-hy,getElem!_pos d kp (by omega)];exact jZ (by omega)
    have l1:=fun n os=>(hcell.out wr cap _ (kp+1) x HR.out hx1 n os).1
    have l2:=fun n os=>(hcell.out wr cap _ (kp+1) x HR.out hx1 n os).2
    have l3:=fun n os=>(hcell.out wr cap _ kp y HR.out hy1 n os).1
    have l4:=fun n os=>(hcell.out wr cap _ kp y HR.out hy1 n os).2
    have hcg:=hcls.out wr HG.out x y (by rw[<-hx];exact HX.out _ hlt) (by rw[<-hy];exact HX.out _ (by omega))
    have XX:=zqh hx
    have YY:=zqh hy
    clear hx hy hx1 hy1
    by_cases hdup:x.l=y.l
    ·have hb:(x.l==y.l)=true:=by rw[hdup];exact beq_self_eq_true _
     rw[hb] at hcg
     have hck:¬(c=kp+1):=by omega
     have z4:(kp:Int)+1<=(d.size:Int):=by omega
     have z5:(d.size:Int)<=(c:Int):=by omega
     go_wp2_with fail
     go_quiet_grown (first | (go_at_fn 142;refine Calls.grown_of (hcg _ _)))
     have hR2:Hid (RowF (Sort.grow (wr.drewN nq) osq) g cap (fun j=>d[j]?)):=zqh (HR.out.kept (Sort.heap_grow_old _ _ (by exact HR.out.lt)))
     have hG2:Hid (w.grownBy (Sort.grow (wr.drewN nq) osq) (some g)):=zqh (zdy HG.out nq osq)
     clear l1 l2 l3 l4 hcg
     generalize Sort.grow (wr.drewN nq) osq=wq at hR2 hG2 ⊢
     go_wp2_with fail
     go_loopg [5,7] d.size (fun gg s5 s7 wr=>∃(kk k2:Nat) (dk:Array Pt),s5=.int .i64 kk/\s7=.int .i64 k2/\1<=k2/\kp+1+k2<=d.size/\d.size-(kp+1+k2)<=gg/\Hid (zoB d (kp+1+k2) kk dk)/\Hid (RowF wr g cap (fun j=>dk[j]?))/\Hid (w.grownBy wr (some g)))
     case atStart=>exact ⟨kp+1,1,d,by go_num,rfl,qL _,by omega,by omega,zqh (zoB.start HK.out (zhN (by omega) (by rw[XX.out,xF,YY.out];exact hdup))),hR2,hG2⟩
     case round =>
      obtain ⟨kk,k2,dk,rfl,rfl,h1,hle,hg2,HI,HR2,HG2⟩:=hrel
      have hkk:=HI.out.lt
      have hds:=HI.out.size
      obtain ⟨k2p,rfl⟩:∃k2p,k2=k2p+1:=⟨k2-1,by omega⟩
      by_cases hlt2:kp+1+(k2p+1)<d.size
      ·have hwp2:IntKind.i64.wrap (k2p:Int)=(k2p:Int):=by rw[yY];omega
       have y1:(k2p:Int)+1<((d.size-(kp+1):Nat):Int):=by omega
       have y2:(k2p:Int)<((d.size-(kp+1):Nat):Int):=by omega
       have y3:(0:Int)<=(k2p:Int)+1:=by omega
       have y4:((k2p:Int)+1).toNat=k2p+1:=by omega
       have y5:(kk:Int)<(d.size:Int):=by omega
       obtain ⟨u,hu⟩:∃u,d[kp+1+(k2p+1)]! = u:=⟨_,rfl⟩
       obtain ⟨v,hv⟩:∃v,d[kp+1+k2p]! = v:=⟨_,rfl⟩
       have hu1:dk[kp+1+(k2p+1)]?=some u:=by rw[<-hu,<-HI.out.high _ (by omega),getElem!_pos dk _ (by omega)];exact jZ (by omega)
       have hv1:dk[kp+1+k2p]?=some v:=by rw[<-hv,<-HI.out.high _ (by omega),getElem!_pos dk _ (by omega)];exact jZ (by omega)
       have l1:=fun n os=>(hcell.out wr cap _ (kp+1+(k2p+1)) u HR2.out hu1 n os).1
       have l2:=fun n os=>(hcell.out wr cap _ (kp+1+(k2p+1)) u HR2.out hu1 n os).2
       have l3:=fun n os=>(hcell.out wr cap _ (kp+1+k2p) v HR2.out hv1 n os).1
       have l4:=fun n os=>(hcell.out wr cap _ (kp+1+k2p) v HR2.out hv1 n os).2
       have o1:(kp+1+(k2p+1))*2=(kp+1)*2+(k2p+1)*2:=by omega
       have o2:(kp+1+k2p)*2=(kp+1)*2+k2p*2:=by omega
       rw[o1] at l1 l2
       rw[o2] at l3 l4
       have hcg:=hcls.out wr HG2.out u v (by rw[<-hu];exact HX.out _ hlt2) (by rw[<-hv];exact HX.out _ (by omega))
       have UU:=zqh hu
       have VV:=zqh hv
       have HU1:=zqh hu1
       clear hu hv hu1 hv1 o1 o2
       by_cases hdup2:u.l=v.l
       ·have hb2:(u.l==v.l)=true:=by rw[hdup2];exact beq_self_eq_true _
        rw[hb2] at hcg
        go_wp2_with fail
        go_quiet_grown (first | (go_at_fn 142;refine Calls.grown_of (hcg _ _)))
        have hR3:Hid (RowF (Sort.grow (wr.drewN nq) osq) g cap (fun j=>dk[j]?)):=zqh (HR2.out.kept (Sort.heap_grow_old _ _ (by exact HR2.out.lt)))
        have hG3:Hid (w.grownBy (Sort.grow (wr.drewN nq) osq) (some g)):=zqh (zdy HG2.out nq osq)
        clear l1 l2 l3 l4 hcg
        generalize Sort.grow (wr.drewN nq) osq=wq2 at hR3 hG3 ⊢
        go_wp2_with fail
        go_roundg (d.size-(kp+1+(k2p+1+1)))
        case measure=>omega
        case rel=>exact ⟨kk,k2p+1+1,dk,rfl,by go_num,by omega,by omega,qL _,zqh (HI.out.skip (zhN (by omega) (by rw[UU.out,show kp+1+(k2p+1)-1=kp+1+k2p by omega,VV.out];exact hdup2))),hR3,hG3⟩
       ·have hb2:(u.l==v.l)=false:=beq_eq_false_iff_ne.2 hdup2
        rw[hb2] at hcg
        go_wp2_with fail
        go_quiet_grown (first | (go_at_fn 142;refine Calls.grown_of (hcg _ _)))
        have hR3:Hid (RowF (Sort.grow (wr.drewN nq) osq) g cap (fun j=>dk[j]?)):=zqh (HR2.out.kept (Sort.heap_grow_old _ _ (by exact HR2.out.lt)))
        have hG3:Hid (w.grownBy (Sort.grow (wr.drewN nq) osq) (some g)):=zqh (zdy HG2.out nq osq)
        clear l1 l2 l3 l4 hcg
        generalize Sort.grow (wr.drewN nq) osq=wq2 at hR3 hG3 ⊢
        obtain ⟨c0,c1⟩:=hR3.out.cell HU1.out
        rw[show (kp+1+(k2p+1))*2=(kp+1)*2+(k2p+1)*2 by omega] at c0 c1
        obtain ⟨d0,d1,e0,e1⟩:=hR3.out.there (j:=kk) (by omega)
        have f0:=hR3.out.free (kk*2)
        have f1:=hR3.out.free (kk*2+1)
        obtain ⟨Au,cu,hv5,_⟩:=(HX.out _ hlt2).1
        rw[UU.out] at hv5
        obtain ⟨uv,huv⟩:∃uv,u.v=uv:=⟨_,rfl⟩
        rw[huv] at hv5 c0
        subst hv5
        have HUV:=zqh huv
        clear huv
        go_wp2_with fail
        go_roundg (d.size-(kp+1+(k2p+1+1)))
        case measure=>omega
        case rel =>
         have hP:=hR3.out.put (i:=kk) (by omega) u
         rw[HUV.out] at hP
         refine ⟨kk+1,k2p+1+1,dk.setIfInBounds kk u,by go_num,by go_num,by omega,by omega,qL _,zqh ?_,zqh (hP.weaken (fun j x hx=>?_)),zqh ?_⟩
         ·have:=HI.out.keep hlt2 (zhM (by rw[UU.out,show kp+1+(k2p+1)-1=kp+1+k2p by omega,VV.out];exact hdup2))
          rwa [UU.out] at this
         ·rw[Array.getElem?_setIfInBounds] at hx
          by_cases e:kk=j
          ·subst e
           rw[if_pos rfl]
           rw[if_pos rfl,if_pos (by omega)] at hx
           exact hx
          ·rw[if_neg (fun h=>e h.symm)]
           rwa [if_neg e] at hx
         ·exact zbo hG3.out (zdS wq2 g (kk*2) (kk*2+1) _ _)
      ·have hend:kp+1+(k2p+1)=d.size:=by omega
       have y1:¬((k2p:Int)+1<((d.size-(kp+1):Nat):Int)):=by omega
       have hI:=HI.out
       rw[hend] at hI
       have HI2:=zqh hI
       clear hI
       have hkc:¬(c=kk):=by omega
       have y6:(kk:Int)<=(d.size:Int):=by omega
       obtain ⟨vs,hvl,hcl⟩:∃vs:List Value,vs.length=(d.size-kk)*2/\∀ty,(Builtin.clear_ #[138] ty #[.slice (some ⟨g,kk*2,none⟩) (d.size-kk) (c-kk)]).run Tryz.prog wr=.ok (.tuple #[]) (wr.setCells g (kk*2) vs) :=
        run_clear_parts wr g (kk*2) (d.size-kk) (c-kk) (by omega) (fun j hj=>HR2.out.some (by omega)) (fun j hj=>HR2.out.free _)
       have hlen:=HI2.out.len
       have HLen:=zqh hlen
       have y7:kk<=c:=by omega
       have HVl:=zqh hvl
       clear hlen hvl
       go_wp2_with fail
       go_ret
       refine ⟨by rw[HLen.out];rfl,?_,zbo HG2.out (zcM wr g (kk*2) 0 vs)⟩
       refine zf3 kk vs (kk*2) wr (HR2.out.weaken (fun j x hx=>?_)) zqn (fun j hj=>List.getElem?_eq_none (by rw[HLen.out];exact hj))
       have hj:j<kk:=by rw[<-HLen.out];exact (List.getElem?_eq_some_iff.1 hx).1
       have h1:=HI2.out.low j hj
       rw[hx] at h1
       rw[h1,getElem!_pos dk j (by omega)]
       exact jZ (by omega)
    ·have hb:(x.l==y.l)=false:=beq_eq_false_iff_ne.2 hdup
     rw[hb] at hcg
     go_wp2_with fail
     go_quiet_grown (first | (go_at_fn 142;refine Calls.grown_of (hcg _ _)))
     have hR2:Hid (RowF (Sort.grow (wr.drewN nq) osq) g cap (fun j=>d[j]?)):=zqh (HR.out.kept (Sort.heap_grow_old _ _ (by exact HR.out.lt)))
     have hG2:Hid (w.grownBy (Sort.grow (wr.drewN nq) osq) (some g)):=zqh (zdy HG.out nq osq)
     clear l1 l2 l3 l4 hcg
     generalize Sort.grow (wr.drewN nq) osq=wq at hR2 hG2 ⊢
     go_wp2_with fail
     go_roundg (d.size-(kp+2))
     case measure=>omega
     case rel =>
      refine ⟨kp+1+1,by omega,by omega,by omega,by go_num,hR2,hG2,zqh (fun j hj=>?_)⟩
      by_cases e:j=kp+1
      ·subst e
       exact zhM (by rw[XX.out,xF,YY.out];exact hdup)
      ·exact HK.out j (by omega)
   ·obtain rfl:k=d.size:=by omega
    have z1:¬((d.size:Int)<(d.size:Int)):=by omega
    go_wp2_with fail
    go_ret
    rw[hsame.out HK.out]
    refine ⟨by simp,?_,HG.out⟩
    simpa using HR.out
end

section
open Go.RowKit
structure zf4 (ys ks:List Pt) (i len sh:Nat):Prop where
 le:ks.length<=i
 sub:ks.Sublist (ys.take i)
 anti:∀a∈ks,∀b∈ks,(∀x∈a.l,x∈b.l)->a.l=b.l
 cov:∀x∈ys.take i,∃p∈ks,∀z∈p.l,z∈x.l
 top:∀x∈ys.take i,x.l.length<=len
 hit:len=0\/∃x∈ys.take i,x.l.length=len
 shle:sh<=ks.length
 low:∀j (h:j<ks.length),j<sh->ks[j].l.length<len
 high:∀j (h:j<ks.length),sh<=j->ks[j].l.length=len
structure Srt (ys:List Pt):Prop where
 srt:ys.Pairwise (fun a b=>za7 a.l b.l=true)
 up:∀x∈ys,Up x.l
theorem zf4.start (ys:List Pt):zf4 ys [] 0 0 0 :=
 ⟨qL _,by simp,(fun a ha=>by cases ha),(fun x hx=>by simp at hx),(fun x hx=>by simp at hx),.inl rfl,qL _,(fun j h=>absurd h (jD _)),(fun j h=>absurd h (jD _))⟩
section
variable {ys ks:List Pt} {i len sh:Nat}
theorem Srt.ahead (h:Srt ys) (hi:i<ys.length) {x:Pt} (hx:x∈ys.take i):za7 x.l ys[i].l=true:=by
 obtain ⟨j,hj,rfl⟩:=List.mem_iff_getElem.1 hx
 rw[List.getElem_take]
 have hj':j<i:=by rw[jR] at hj;omega
 exact List.pairwise_iff_getElem.1 h.srt j i (by omega) hi hj'
theorem zf4.len_le (h:zf4 ys ks i len sh) (hs:Srt ys) (hi:i<ys.length):len<=ys[i].l.length:=by
 rcases h.hit with e | ⟨x,hx,e⟩
 ·omega
 ·have:=zd5 (hs.ahead hi hx);omega
theorem zf4.longer (h:zf4 ys ks i len sh) (hs:Srt ys) (hi:i<ys.length) (hl:len<ys[i].l.length) :
  (∀j (hj:j<ks.length),j<ks.length->ks[j].l.length<ys[i].l.length)/\(∀j (hj:j<ks.length),ks.length<=j->ks[j].l.length=ys[i].l.length) :=
 ⟨fun j hj _=>kI (h.top _ (h.sub.subset (qG hj))) hl,fun j hj h=>by omega⟩
structure KAt (ys ks:List Pt) (i sh:Nat) (hi:i<ys.length):Prop where
 le:ks.length<=i
 sub:ks.Sublist (ys.take i)
 anti:∀a∈ks,∀b∈ks,(∀x∈a.l,x∈b.l)->a.l=b.l
 cov:∀x∈ys.take i,∃p∈ks,∀z∈p.l,z∈x.l
 shle:sh<=ks.length
 low:∀j (h:j<ks.length),j<sh->ks[j].l.length<ys[i].l.length
 high:∀j (h:j<ks.length),sh<=j->ks[j].l.length=ys[i].l.length
theorem zf4.up (h:zf4 ys ks i len sh) (hs:Srt ys) (hi:i<ys.length) (hl:len<ys[i].l.length):KAt ys ks i ks.length hi :=
 ⟨h.le,h.sub,h.anti,h.cov,qL _,(h.longer hs hi hl).1,(h.longer hs hi hl).2⟩
theorem zf4.stay (h:zf4 ys ks i len sh) (hs:Srt ys) (hi:i<ys.length) (hl:¬len<ys[i].l.length):KAt ys ks i sh hi/\len=ys[i].l.length:=by
 have e:len=ys[i].l.length:=by have:=h.len_le hs hi;omega
 exact ⟨⟨h.le,h.sub,h.anti,h.cov,h.shle,by rw[<-e];exact h.low,by rw[<-e];exact h.high⟩,e⟩
theorem KAt.any {hi:i<ys.length} (h:KAt ys ks i sh hi) (hs:Srt ys):(ks.take sh).any (fun q=>zg5 q.l ys[i].l)=ks.any (fun q=>zg5 q.l ys[i].l):=by
 rw[qZ,jI,jI]
 constructor
 ·rintro ⟨q,hq,e⟩;exact ⟨q,qP hq,e⟩
 ·rintro ⟨q,hq,e⟩
  obtain ⟨j,hj,rfl⟩:=List.mem_iff_getElem.1 hq
  by_cases hjs:j<sh
  ·exact ⟨_,List.mem_iff_getElem.2 ⟨j,by rw[jR];omega,List.getElem_take⟩,e⟩
  ·exfalso
   have h1:=h.high j hj (by omega)
   have h2:=hs.ahead hi (h.sub.subset (qG hj))
   have h3:ks[j].l=ys[i].l:=by
    have hm:=qP (h.sub.subset (qG hj))
    exact zmU (hs.up _ hm) (hs.up _ (qG hi)) (zg6.1 e) (by omega)
   rw[h3,zd4] at h2
   cases h2
theorem zkh (hi:i<ys.length):ys.take (i+1)=ys.take i++[ys[i]]:=zct ys i hi
theorem zdW {x:Pt} (hi:i<ys.length):x∈ys.take (i+1)↔x∈ys.take i\/x=ys[i]:=by rw[zkh hi,yO,xG]
theorem KAt.top {hi:i<ys.length} (hs:Srt ys) {x:Pt} (hx:x∈ys.take (i+1)):x.l.length<=ys[i].l.length:=by
 rcases (zdW hi).1 hx with h | rfl
 ·exact zd5 (hs.ahead hi h)
 ·exact qL _
theorem KAt.drop {hi:i<ys.length} (h:KAt ys ks i sh hi) (hs:Srt ys) (ha:(ks.take sh).any (fun q=>zg5 q.l ys[i].l)=true):zf4 ys ks (i+1) ys[i].l.length sh:=by
 rw[h.any hs] at ha
 obtain ⟨q,hq,e⟩:=List.any_eq_true.1 ha
 refine ⟨by have:=h.le;omega,h.sub.trans (by rw[zkh hi];exact List.sublist_append_left _ _),h.anti,fun x hx=>?_,fun x hx=>KAt.top (hi:=hi) hs hx,.inr ⟨ys[i],(zdW hi).2 (.inr rfl),rfl⟩,h.shle,h.low,h.high⟩
 rcases (zdW hi).1 hx with h' | rfl
 ·exact h.cov x h'
 ·exact ⟨q,hq,zg6.1 e⟩
theorem KAt.keep {hi:i<ys.length} (h:KAt ys ks i sh hi) (hs:Srt ys) (ha:(ks.take sh).any (fun q=>zg5 q.l ys[i].l)=false):zf4 ys (ks++[ys[i]]) (i+1) ys[i].l.length sh:=by
 rw[h.any hs] at ha
 have hno:∀q∈ks,¬∀x∈q.l,x∈ys[i].l:=fun q hq e=>by
  have:ks.any (fun q=>zg5 q.l ys[i].l)=true:=List.any_eq_true.2 ⟨q,hq,zg6.2 e⟩
  rw[ha] at this;cases this
 refine ⟨by have:=h.le;simp;omega,by rw[zkh hi];exact List.Sublist.append h.sub (List.Sublist.refl _),?_,fun x hx=>?_,fun x hx=>KAt.top (hi:=hi) hs hx,.inr ⟨ys[i],(zdW hi).2 (.inr rfl),rfl⟩,by have:=h.shle;simp;omega,fun j hj hjs=>?_,fun j hj hjs=>?_⟩
 ·intro a ha' b hb' e
  rcases List.mem_append.1 ha' with h1 | h1<;>rcases List.mem_append.1 hb' with h2 | h2
  ·exact h.anti a h1 b h2 e
  ·rw[List.mem_singleton.1 h2] at e;exact absurd e (hno a h1)
  ·rw[List.mem_singleton.1 h1] at e ⊢
   have hm:=h.sub.subset h2
   have h3:=hs.ahead hi hm
   have h4:ys[i].l=b.l:=zmU (hs.up _ (qG hi)) (hs.up _ (qP hm)) e (zd5 h3)
   exact h4
  ·rw[List.mem_singleton.1 h1,List.mem_singleton.1 h2]
 ·rcases (zdW hi).1 hx with h' | rfl
  ·obtain ⟨p,hp,e⟩:=h.cov x h';exact ⟨p,jH _ hp,e⟩
  ·exact ⟨ys[i],yJ _ (List.mem_singleton.2 rfl),fun z hz=>hz⟩
 ·have hj2:j<ks.length:=by have:=h.shle;omega
  rw[yP hj2];exact h.low j hj2 hjs
 ·by_cases hj2:j<ks.length
  ·rw[yP hj2];exact h.high j hj2 hjs
  ·have:j=ks.length:=by simp at hj;omega
   subst this
   simp
theorem zf4.fmd (h:zf4 ys ks i len sh) (hs:Srt ys) (h0:∀x∈ys,∀n∈x.l,0<=n):Fmd (ks.map (·.l)):=by
 have hm:∀x∈ks,x∈ys:=fun x hx=>qP (h.sub.subset hx)
 refine ⟨fun p hp=>?_,?_,fun p hp q hq e=>?_⟩
 ·obtain ⟨x,hx,rfl⟩:=List.mem_map.1 hp
  exact ⟨hs.up x (hm x hx),h0 x (hm x hx)⟩
 ·rw[List.pairwise_map]
  exact kG (h.sub.trans (List.take_sublist i ys)) hs.srt
 ·obtain ⟨x,hx,rfl⟩:=List.mem_map.1 hp
  obtain ⟨y,hy,rfl⟩:=List.mem_map.1 hq
  exact h.anti x hx y hy e
end
def zeH (xs:List Pt) (r:List Pt):Prop:=Fmd (r.map (·.l))/\(∀p∈r,∃x∈xs,x.l=p.l)/\∀x∈xs,∃p∈r,∀z∈p.l,z∈x.l
theorem zeH.holds {xs r:List Pt} (h:zeH xs r) (on:List Int):zap (r.map (·.l)) on=zap (xs.map (·.l)) on:=by
 rw[qZ,zbE,zbE]
 constructor
 ·rintro ⟨p,hp,e⟩
  obtain ⟨q,hq,rfl⟩:=List.mem_map.1 hp
  obtain ⟨x,hx,e2⟩:=h.2.1 q hq
  exact ⟨x.l,List.mem_map.2 ⟨x,hx,rfl⟩,by rw[e2];exact e⟩
 ·rintro ⟨p,hp,e⟩
  obtain ⟨x,hx,rfl⟩:=List.mem_map.1 hp
  obtain ⟨q,hq,e2⟩:=h.2.2 x hx
  exact ⟨q.l,List.mem_map.2 ⟨q,hq,rfl⟩,fun z hz=>e z (e2 z hz)⟩
end
end Go.Proofs.YtdmodhnhldbpnaaGreat
