/- What tree's sizeFrom, Size and Formed answer. -/
import Derived.Test.YtdmodhnhldbpnaaGreatProg
import Derived.Test.YtdmodhnhldbpnaaGreatTreeFormed
import Derived.Test.YtdmodhnhldbpnaaGreatAid
set_option linter.unusedSimpArgs false
set_option linter.unusedVariables false
set_option maxHeartbeats 8000000
set_option maxRecDepth 100000
namespace Go.Proofs.YtdmodhnhldbpnaaGreat
open Go.RowKit
def zl8 (k:Nat):Prop:=∀(t:Tr) (L:Int) (w:World),1<=L->L<=41->Tr.In w k t->Calls Tryz.prog 116 #[.agg t.cs.toArray,.int .i64 L] w fun e w'=>e=.returned (.int .i64 (zcK k L t))/\Below w.heap.size w w'
theorem zf0:∀k,zl8 k
 | 0=>fun _ _ _ _ _ h=>h.elim
 | k+1=>fun t L w hL1 hL2 h=>by
  have hlen:t.parts.length<=9223372036854775807:=by have:=h.2.1;omega
  have hn:=h.2.1.1
  have HN:=zqh hn
  have HI:=zqh h
  have HIH:=zqh (zf0 k)
  have HC:=zqh (At.tr_cell (At.new w 49 t.cs.toArray))
  clear h
  have c5:=HC.out.2.1
  rw[hn] at c5
  clear hn
  go_enter Tryz.func116,Tryz.ntmps116
  by_cases hd:40<L
  ·have dd:=za6 hd
   have HF:=zqh (zl6 k t hd)
   go_wp2_with fail
   go_ret
   exact ⟨zaL HF.out.symm,zqb⟩
  ·have dd:=za0 hd
   have HD:=zqh hd
   have hL3:L<=40:=by omega
   go_wp2_with fail
   go_loopw [5,14] (fun x i wr=>∃(j:Nat) (xv:Int),j<=t.parts.length/\i=.int .i64 j/\x=.int .i64 xv/\(0<=xv/\xv<=1000)/\Hid (zce k (L+1) t j=xv)/\Hid (At wr w.heap.size 49 t.cs.toArray)/\Hid (Below w.heap.size w wr)) (fun _ i _=>t.parts.length-(intOf i).toNat)
   case atStart=>exact ⟨0,0,qK _,rfl,rfl,by omega,zqh (zi8 _ _ _),zqh (At.new _ _ _),zqh (zqb)⟩
   case round =>
    clear c5
    obtain ⟨j,x,hj,rfl,rfl,⟨hx1,hx2⟩,HX,hA,hB⟩:=hrel
    by_cases hlt:j<t.parts.length
    ·obtain ⟨b,off,ha,hb,hr⟩:=HI.out.2.2.1 (by rw[HN.out];omega)
     have HR:=zqh (zaE (hr j hlt) hb zqn hB.out)
     have HP:=zqh (Tr.In.next (HI.out.2.2.2 j hlt) hB.out)
     have hA2:=zfE wr t.parts[j]
     have HP2:=zqh (HP.out.next (zbG wr t.parts[j]))
     have hy0:=zgm k (L+1) t.parts[j]
     have hy1:=zpY k (L+1) t.parts[j]
     obtain ⟨y,hy⟩:∃y:Int,zcK k (L+1) t.parts[j]=y:=⟨_,rfl⟩
     have HE:Hid (1001<=x+y->zcK (k+1) L t=1001):=fun q=>zj8 k t (show ¬40<L by omega) j hlt (by rw[HX.out,hy];exact q)
     have HSu:Hid (zce k (L+1) t (j+1)=zal (x+y)):=by have:=zdQ k (L+1) t j hlt;rw[HX.out,hy] at this;exact this
     rw[hy] at hy0 hy1
     have HY:=zqh hy
     clear hr hb hy
     rw[ha]
     clear ha
     have hjz:(0:Int)<=(j:Int):=by omega
     have hjn:(j:Int)<(t.parts.length:Int):=by omega
     go_wp2_with (first
      |(refine wpList_load_mid rfl 49 _ rfl b (off+j*9) rfl t.parts[j].cs _ HR.out Tryz.underlying49 rfl (by rw[Tr.cs_length];kernel_rfl) ?_)
      |(refine qN rfl 49 _ _ rfl wr.heap.size t.parts[j].cs.toArray rfl rfl 49 Tr.blank.cs.toArray (At.new _ _ _) (by kernel_rfl) rfl (Tr.one _) ?_;change Exit.then _ _ _ _ (zjT wr t.parts[j]))
      |(refine jU rfl 49 _ rfl wr.heap.size rfl 49 t.parts[j].cs.toArray (0,0) _ hA2 Tryz.underlying49 rfl (by kernel_rfl) ?_) | fail)
     refine (HIH.out t.parts[j] _ _ (by omega) (by omega) HP2.out).mono ?_
     rintro e w3 ⟨rfl,hb3⟩
     rw[HY.out]
     have HBx:=zd8 hB.out t.parts[j]
     have HA:=zqh ((hA.out.below (zbG wr t.parts[j]) hA.out.lt).below hb3 (by rw[ze3];have:=hA.out.lt;omega))
     have HB:=zqh (HBx.trans (hb3.mono HBx.size))
     clear hb3 hA2 HBx
     by_cases hg:1001<=x+y
     ·have dg:=za6 hg
      have HF:=zqh (HE.out hg)
      go_wp2_with fail
      go_ret
      exact ⟨zaL HF.out.symm,HB.out⟩
     ·have dg:=za0 hg
      have HX2:Hid (zce k (L+1) t (j+1)=x+y):=by rw[HSu.out,zaB (by omega)];exact rfl
      go_wp2_with fail
      exact ⟨⟨j+1,x+y,by omega,by go_num,rfl,by omega,HX2,HA,HB⟩,by simp[intOf];omega⟩
    ·obtain rfl:j=t.parts.length:=by omega
     have hS:=zi9 k t (show ¬40<L by omega)
     rw[HX.out] at hS
     obtain ⟨c0,c5,c6,c7,c8⟩:=At.tr_cell hA.out
     obtain ⟨lo,hlo⟩:∃lo:Int,t.lo=lo:=⟨_,rfl⟩
     obtain ⟨hi,hhi⟩:∃hi:Int,t.hi=hi:=⟨_,rfl⟩
     rw[hlo] at c6 hS
     rw[hhi] at c7 hS
     have hd0:=hx1
     have HS:=zqh hS
     clear hlo hhi hS c5 c8
     by_cases h7:t.kind=7
     ·have d7:=(zaq h7).1
      have H7:=zqh h7
      clear h7
      by_cases hx0:0<x
      ·have dx:=za6 hx0
       by_cases h1:hi<=lo
       ·have d1:=za6 h1
        by_cases h2:1<=lo
        ·have d2:=za6 h2
         by_cases hm:lo<=1001
         ·have hT:zbe t.kind lo hi x=lo:=by unfold zbe zjv;rw[if_pos ⟨H7.out,hx0⟩];unfold zal;(repeat' split)<;>omega
          rw[hT] at HS
          clear hT
          have hmb:=zbh (x:=x) (T:=lo) hd0 (by omega) (by omega) (by omega)
          have e1:wrap64 (x*lo)=x*lo:=zaG (by unfold I64;omega)
          have e2:wrap64 (1+x*lo)=1+x*lo:=zaG (by unfold I64;omega)
          have dm:=za6 hm
          by_cases hg:1001<1+x*lo
          ·rw[zaw hg] at HS
           have hg2:¬1+x*lo<=1001:=by omega
           have dg:=za0 hg2
           go_wp2_with fail
           go_ret
           exact ⟨zaL HS.out,hB.out⟩
          ·rw[zaB hg] at HS
           have hg2:1+x*lo<=1001:=by omega
           have dg:=za6 hg2
           go_wp2_with fail
           go_ret
           exact ⟨zaL HS.out,hB.out⟩
         ·have hT:zbe t.kind lo hi x=1001:=by unfold zbe zjv;rw[if_pos ⟨H7.out,hx0⟩];unfold zal;(repeat' split)<;>omega
          rw[hT] at HS
          clear hT
          have hmb:=zbh (x:=x) (T:=1001) hd0 (by omega) (by omega) (by omega)
          have e1:wrap64 (x*1001)=x*1001:=zaG (by unfold I64;omega)
          have e2:wrap64 (1+x*1001)=1+x*1001:=zaG (by unfold I64;omega)
          have dm:=za0 hm
          rw[zaw (by omega)] at HS
          have hg2:¬1+x*1001<=1001:=by omega
          have dg:=za0 hg2
          go_wp2_with fail
          go_ret
          exact ⟨zaL HS.out,hB.out⟩
        ·have d2:=za0 h2
         have hT:zbe t.kind lo hi x=1:=by unfold zbe zjv;rw[if_pos ⟨H7.out,hx0⟩];unfold zal;(repeat' split)<;>omega
         rw[hT,Int.mul_one,zaB (by omega)] at HS
         clear hT
         have hg:1+x<=1001:=by omega
         have dg:=za6 hg
         go_wp2_with fail
         go_ret
         exact ⟨zaL HS.out,hB.out⟩
       ·have d1:=za0 h1
        by_cases h2:1<=hi
        ·have d2:=za6 h2
         by_cases hm:hi<=1001
         ·have hT:zbe t.kind lo hi x=hi:=by unfold zbe zjv;rw[if_pos ⟨H7.out,hx0⟩];unfold zal;(repeat' split)<;>omega
          rw[hT] at HS
          clear hT
          have hmb:=zbh (x:=x) (T:=hi) hd0 (by omega) (by omega) (by omega)
          have e1:wrap64 (x*hi)=x*hi:=zaG (by unfold I64;omega)
          have e2:wrap64 (1+x*hi)=1+x*hi:=zaG (by unfold I64;omega)
          have dm:=za6 hm
          by_cases hg:1001<1+x*hi
          ·rw[zaw hg] at HS
           have hg2:¬1+x*hi<=1001:=by omega
           have dg:=za0 hg2
           go_wp2_with fail
           go_ret
           exact ⟨zaL HS.out,hB.out⟩
          ·rw[zaB hg] at HS
           have hg2:1+x*hi<=1001:=by omega
           have dg:=za6 hg2
           go_wp2_with fail
           go_ret
           exact ⟨zaL HS.out,hB.out⟩
         ·have hT:zbe t.kind lo hi x=1001:=by unfold zbe zjv;rw[if_pos ⟨H7.out,hx0⟩];unfold zal;(repeat' split)<;>omega
          rw[hT] at HS
          clear hT
          have hmb:=zbh (x:=x) (T:=1001) hd0 (by omega) (by omega) (by omega)
          have e1:wrap64 (x*1001)=x*1001:=zaG (by unfold I64;omega)
          have e2:wrap64 (1+x*1001)=1+x*1001:=zaG (by unfold I64;omega)
          have dm:=za0 hm
          rw[zaw (by omega)] at HS
          have hg2:¬1+x*1001<=1001:=by omega
          have dg:=za0 hg2
          go_wp2_with fail
          go_ret
          exact ⟨zaL HS.out,hB.out⟩
        ·have d2:=za0 h2
         have hT:zbe t.kind lo hi x=1:=by unfold zbe zjv;rw[if_pos ⟨H7.out,hx0⟩];unfold zal;(repeat' split)<;>omega
         rw[hT,Int.mul_one,zaB (by omega)] at HS
         clear hT
         have hg:1+x<=1001:=by omega
         have dg:=za6 hg
         go_wp2_with fail
         go_ret
         exact ⟨zaL HS.out,hB.out⟩
      ·obtain rfl:x=0:=by omega
       have hT:zbe t.kind lo hi 0=1:=by unfold zbe;rw[if_neg (fun q=>absurd q.2 (by omega))]
       rw[hT] at HS
       clear hT
       go_wp2_with fail
       go_ret
       exact ⟨zaL HS.out,hB.out⟩
     ·have d7:=(zab h7).1
      have hT:zbe t.kind lo hi x=1:=by unfold zbe;rw[if_neg (fun q=>h7 q.1)]
      rw[hT,Int.mul_one,zaB (by omega)] at HS
      clear hT h7
      have hg:1+x<=1001:=by omega
      have dg:=za6 hg
      go_wp2_with fail
      go_ret
      exact ⟨zaL HS.out,hB.out⟩
theorem zp6 (k:Nat) (t:Tr) (w:World) (h:Tr.In w k t) :
  Calls Tryz.prog 78 #[.agg t.cs.toArray] w fun e w'=>e=.returned (.int .i64 (zcK k 1 t))/\Below w.heap.size w w':=by
 have HI:=zqh h
 clear h
 have hA:At (w.alloc (Obj.cells t.cs.toArray 49)) w.heap.size 49 t.cs.toArray:=At.new _ _ _
 have hB:Below w.heap.size w (w.alloc (Obj.cells t.cs.toArray 49)):=zqb
 go_enter Tryz.func78,Tryz.ntmps78
 go_wp2_with (first | (refine jU rfl 49 _ rfl w.heap.size rfl 49 t.cs.toArray (0,0) _ hA Tryz.underlying49 rfl (by kernel_rfl) ?_) | fail)
 refine (zf0 k t 1 _ (by omega) (by omega) (HI.out.next hB)).mono ?_
 rintro e w1 ⟨rfl,hb1⟩
 have HB:=zqh (zaf hB hb1 rfl rfl rfl rfl)
 clear hb1 hA hB
 go_wp2_with fail
 go_ret
 exact ⟨rfl,HB.out⟩
theorem zl9 (k:Nat) (t:Tr) (w:World) (h:Tr.In w k t) :
  Calls Tryz.prog 49 #[.agg t.cs.toArray] w fun e w'=>e=.returned (.bool (zaH k t))/\Below w.heap.size w w':=by
 have HI:=zqh h
 clear h
 have hA:At (w.alloc (Obj.cells t.cs.toArray 49)) w.heap.size 49 t.cs.toArray:=At.new _ _ _
 have hB:Below w.heap.size w (w.alloc (Obj.cells t.cs.toArray 49)):=zqb
 have ht:=znO k t
 obtain ⟨s,hs⟩:∃s:Int,zcK k 1 t=s:=⟨_,rfl⟩
 obtain ⟨f,hf⟩:∃f:Bool,zah k t=f:=⟨_,rfl⟩
 have HR:Hid (zaH k t=(decide (s<=1000)&&f)):=by unfold zaH;rw[<-ht,hs,hf];exact rfl
 have HS:=zqh hs
 have HF:=zqh hf
 clear hs hf ht
 go_enter Tryz.func49,Tryz.ntmps49
 go_wp2_with (first | (refine jU rfl 49 _ rfl w.heap.size rfl 49 t.cs.toArray (0,0) _ hA Tryz.underlying49 rfl (by kernel_rfl) ?_) | fail)
 refine (zp6 k t _ (HI.out.next hB)).mono ?_
 rintro e w1 ⟨rfl,hb1⟩
 rw[HS.out]
 have hA:=hA.step hb1 rfl
 have hB:=zaf hB hb1 rfl rfl rfl rfl
 clear hb1
 by_cases h1:s<=1000
 ·have d1:=za6 h1
  go_wp2_with (first | (refine zaa (by rfl) 49 _ rfl w.heap.size rfl 49 t.cs.toArray (0,0) _ hA Tryz.underlying49 rfl (by kernel_rfl) ?_) | fail)
  refine (zfh k t _ (HI.out.next hB)).mono ?_
  rintro e w2 ⟨rfl,hb2⟩
  rw[HF.out]
  have HB:=zqh (zaf hB hb2 rfl rfl rfl rfl)
  have HR2:Hid (zaH k t=f):=by rw[HR.out,d1,jS];exact rfl
  clear hb2 hA hB
  cases f
  ·go_wp2_with fail
   go_ret
   exact ⟨zad HR2.out.symm,HB.out⟩
  ·go_wp2_with fail
   go_ret
   exact ⟨zad HR2.out.symm,HB.out⟩
 ·have d1:=za0 h1
  have HR2:Hid (zaH k t=false):=by rw[HR.out,d1,yC];exact rfl
  go_wp2_with fail
  go_ret
  exact ⟨zad HR2.out.symm,hB⟩
end Go.Proofs.YtdmodhnhldbpnaaGreat
