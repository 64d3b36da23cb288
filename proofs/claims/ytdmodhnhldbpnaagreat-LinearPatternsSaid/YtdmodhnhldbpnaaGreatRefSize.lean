/- What the reference's Size answers. -/
import Derived.Test.YtdmodhnhldbpnaaGreatProg
import Derived.Test.YtdmodhnhldbpnaaGreatMaa
import Derived.Test.YtdmodhnhldbpnaaGreatMac
import Derived.Test.YtdmodhnhldbpnaaGreatAid
set_option maxHeartbeats 4000000
set_option maxRecDepth 100000
namespace Go.Proofs.YtdmodhnhldbpnaaGreat
open Go.RowKit
theorem znQ:∀(k:Nat) (t:Tr) (w:World),Tr.In w k t ->
  Calls Tryz.prog 48 #[.agg t.cs.toArray] w fun e w'=>e=.returned (.int .i64 (zam k t))/\Below w.heap.size w w'
 | 0,_,_,h=>h.elim
 | k+1,t,w,h=>by
  have hlen:t.parts.length<=9223372036854775807:=by have:=h.2.1;omega
  have hn:=h.2.1.1
  have HI:=zqh h
  have HC:=zqh (At.tr_cell (At.new w 49 t.cs.toArray))
  clear h
  have hcell:=HC.out.2.1
  go_enter Tryz.func48,Tryz.ntmps48
  go_wp2_with fail
  go_loopw [3,9] (fun x i wr=>∃j:Nat,j<=t.parts.length/\i=.int .i64 j/\x=.int .i64 (zb6 k t j)/\Hid (At wr w.heap.size 49 t.cs.toArray)/\Hid (Below w.heap.size w wr)) (fun _ i _=>t.parts.length-(intOf i).toNat)
  case atStart=>exact ⟨0,qK _,rfl,by rw[zjJ],zqh (At.new _ _ _),zqh (zqb)⟩
  case round =>
   obtain ⟨j,hj,rfl,rfl,hA,hB⟩:=hrel
   clear hcell
   have hd0:=zeU k t j
   have hd1:=zmI k t j
   by_cases hlt:j<t.parts.length
   ·have hcell:=(At.tr_cell hA.out).2.1
    obtain ⟨b,off,ha,hb,hr⟩:=HI.out.2.2.1 (by rw[hn];omega)
    have HR:=zqh (zaE (hr j hlt) hb zqn hB.out)
    have HP:=zqh (Tr.In.next (HI.out.2.2.2 j hlt) hB.out)
    have HD:=zqh (zjK k t j hlt)
    have he0:=zcA k t.parts[j]
    have he1:=zoU k t.parts[j]
    obtain ⟨x,hx⟩:∃x:Int,zb6 k t j=x:=⟨_,rfl⟩
    obtain ⟨y,hy⟩:∃y:Int,zam k t.parts[j]=y:=⟨_,rfl⟩
    rw[hx] at hd0 hd1 HD ⊢
    rw[hy] at he0 he1 HD
    have HY:=zqh hy
    clear hx hy hr hb
    rw[ha] at hcell
    clear ha
    have hjz:(0:Int)<=(j:Int):=by omega
    have hjn:(j:Int)<(t.parts.length:Int):=by omega
    go_wp2_with (refine wpList_load_mid rfl 49 _ rfl b (off+j*9) rfl t.parts[j].cs _ HR.out Tryz.underlying49 rfl (by rw[Tr.cs_length];kernel_rfl) ?_)
    refine (znQ k t.parts[j] _ HP.out).mono ?_
    rintro e w3 ⟨rfl,hb3⟩
    rw[HY.out]
    have HA:=zqh (hA.out.step hb3 rfl)
    have HB:=zqh (zaf hB.out hb3 rfl rfl rfl rfl)
    clear hb3 hcell
    by_cases hg:1001<x+y
    ·go_wp2_with fail
     exact ⟨⟨j+1,by omega,by go_num,by rw[HD.out,zaw hg],HA,HB⟩,by simp[intOf];omega⟩
    ·have hg':x+y<=1001:=by omega
     go_wp2_with fail
     exact ⟨⟨j+1,by omega,by go_num,by rw[HD.out,zaB (by omega)],HA,HB⟩,by simp[intOf];omega⟩
   ·obtain rfl:j=t.parts.length:=by omega
    obtain ⟨c0,c1,c2,c3,c4⟩:=At.tr_cell hA.out
    have HT7:=zqh (zdG k t)
    have HTn:=zqh (zdH k t)
    obtain ⟨x,hx⟩:∃x:Int,zb6 k t t.parts.length=x:=⟨_,rfl⟩
    rw[hx] at hd0 hd1 HT7 HTn ⊢
    clear hx
    by_cases h7:t.kind=7
    ·have d7:(t.kind==7)=true:=by rw[beq_iff_eq];exact h7
     have HS:=zqh (HT7.out h7)
     clear HT7 HTn h7 c1
     have ht1:=zhs t.lo
     have ht2:=zht t.lo
     have hu1:=zdF t.lo t.hi
     have hu2:=zmH t.lo t.hi
     obtain ⟨lo,hlo⟩:∃lo:Int,t.lo=lo:=⟨_,rfl⟩
     obtain ⟨hi,hhi⟩:∃hi:Int,t.hi=hi:=⟨_,rfl⟩
     rw[hlo] at c2 HS ht1 ht2 hu1 hu2
     rw[hhi] at c3 HS hu1 hu2
     clear hlo hhi
     by_cases h1:1<lo
     ·by_cases h2:2000<lo
      ·by_cases h3:2000<hi
       ·skip
        have hT:zaC lo hi=2000:=by unfold zaC zbs zbr;(repeat' split)<;>omega
        rw[hT] at HS
        clear hT hu1 hu2 ht1 ht2
        have hm:=zbh (x:=x) (T:=2000) hd0 hd1 (by omega) (by omega)
        have e1:wrap64 (x*2000)=x*2000:=zaG (by unfold I64;omega)
        have e2:wrap64 (x*2000+1)=x*2000+1:=zaG (by unfold I64;omega)
        by_cases hg:1001<x*2000+1
        ·rw[zaw hg] at HS
         go_wp2_with fail
         go_ret
         exact ⟨zaL HS.out,hB.out⟩
        ·rw[zaB hg] at HS
         have hg':x*2000+1<=1001:=by omega
         go_wp2_with fail
         go_ret
         exact ⟨zaL HS.out,hB.out⟩
       ·skip
        have hT:zaC lo hi=2000:=by unfold zaC zbs zbr;(repeat' split)<;>omega
        rw[hT] at HS
        clear hT hu1 hu2 ht1 ht2
        have hm:=zbh (x:=x) (T:=2000) hd0 hd1 (by omega) (by omega)
        have e1:wrap64 (x*2000)=x*2000:=zaG (by unfold I64;omega)
        have e2:wrap64 (x*2000+1)=x*2000+1:=zaG (by unfold I64;omega)
        by_cases hg:1001<x*2000+1
        ·rw[zaw hg] at HS
         go_wp2_with fail
         go_ret
         exact ⟨zaL HS.out,hB.out⟩
        ·rw[zaB hg] at HS
         have hg':x*2000+1<=1001:=by omega
         go_wp2_with fail
         go_ret
         exact ⟨zaL HS.out,hB.out⟩
      ·by_cases h3:lo<hi
       ·by_cases h4:2000<hi
        ·skip
         have hT:zaC lo hi=2000:=by unfold zaC zbs zbr;(repeat' split)<;>omega
         rw[hT] at HS
         clear hT hu1 hu2 ht1 ht2
         have hm:=zbh (x:=x) (T:=2000) hd0 hd1 (by omega) (by omega)
         have e1:wrap64 (x*2000)=x*2000:=zaG (by unfold I64;omega)
         have e2:wrap64 (x*2000+1)=x*2000+1:=zaG (by unfold I64;omega)
         by_cases hg:1001<x*2000+1
         ·rw[zaw hg] at HS
          go_wp2_with fail
          go_ret
          exact ⟨zaL HS.out,hB.out⟩
         ·rw[zaB hg] at HS
          have hg':x*2000+1<=1001:=by omega
          go_wp2_with fail
          go_ret
          exact ⟨zaL HS.out,hB.out⟩
        ·skip
         have hT:zaC lo hi=hi:=by unfold zaC zbs zbr;(repeat' split)<;>omega
         rw[hT] at HS
         clear hT hu1 hu2 ht1 ht2
         have hm:=zbh (x:=x) (T:=hi) hd0 hd1 (by omega) (by omega)
         have e1:wrap64 (x*hi)=x*hi:=zaG (by unfold I64;omega)
         have e2:wrap64 (x*hi+1)=x*hi+1:=zaG (by unfold I64;omega)
         by_cases hg:1001<x*hi+1
         ·rw[zaw hg] at HS
          go_wp2_with fail
          go_ret
          exact ⟨zaL HS.out,hB.out⟩
         ·rw[zaB hg] at HS
          have hg':x*hi+1<=1001:=by omega
          go_wp2_with fail
          go_ret
          exact ⟨zaL HS.out,hB.out⟩
       ·skip
        have hT:zaC lo hi=lo:=by unfold zaC zbs zbr;(repeat' split)<;>omega
        rw[hT] at HS
        clear hT hu1 hu2 ht1 ht2
        have hm:=zbh (x:=x) (T:=lo) hd0 hd1 (by omega) (by omega)
        have e1:wrap64 (x*lo)=x*lo:=zaG (by unfold I64;omega)
        have e2:wrap64 (x*lo+1)=x*lo+1:=zaG (by unfold I64;omega)
        by_cases hg:1001<x*lo+1
        ·rw[zaw hg] at HS
         go_wp2_with fail
         go_ret
         exact ⟨zaL HS.out,hB.out⟩
        ·rw[zaB hg] at HS
         have hg':x*lo+1<=1001:=by omega
         go_wp2_with fail
         go_ret
         exact ⟨zaL HS.out,hB.out⟩
     ·by_cases h3:1<hi
      ·by_cases h4:2000<hi
       ·skip
        have hT:zaC lo hi=2000:=by unfold zaC zbs zbr;(repeat' split)<;>omega
        rw[hT] at HS
        clear hT hu1 hu2 ht1 ht2
        have hm:=zbh (x:=x) (T:=2000) hd0 hd1 (by omega) (by omega)
        have e1:wrap64 (x*2000)=x*2000:=zaG (by unfold I64;omega)
        have e2:wrap64 (x*2000+1)=x*2000+1:=zaG (by unfold I64;omega)
        by_cases hg:1001<x*2000+1
        ·rw[zaw hg] at HS
         go_wp2_with fail
         go_ret
         exact ⟨zaL HS.out,hB.out⟩
        ·rw[zaB hg] at HS
         have hg':x*2000+1<=1001:=by omega
         go_wp2_with fail
         go_ret
         exact ⟨zaL HS.out,hB.out⟩
       ·skip
        have hT:zaC lo hi=hi:=by unfold zaC zbs zbr;(repeat' split)<;>omega
        rw[hT] at HS
        clear hT hu1 hu2 ht1 ht2
        have hm:=zbh (x:=x) (T:=hi) hd0 hd1 (by omega) (by omega)
        have e1:wrap64 (x*hi)=x*hi:=zaG (by unfold I64;omega)
        have e2:wrap64 (x*hi+1)=x*hi+1:=zaG (by unfold I64;omega)
        by_cases hg:1001<x*hi+1
        ·rw[zaw hg] at HS
         go_wp2_with fail
         go_ret
         exact ⟨zaL HS.out,hB.out⟩
        ·rw[zaB hg] at HS
         have hg':x*hi+1<=1001:=by omega
         go_wp2_with fail
         go_ret
         exact ⟨zaL HS.out,hB.out⟩
      ·skip
       have hT:zaC lo hi=1:=by unfold zaC zbs zbr;(repeat' split)<;>omega
       rw[hT,Int.mul_one] at HS
       clear hT hu1 hu2 ht1 ht2
       have e2:wrap64 (x+1)=x+1:=zaG (by unfold I64;omega)
       by_cases hg:1001<x+1
       ·rw[zaw hg] at HS
        go_wp2_with fail
        go_ret
        exact ⟨zaL HS.out,hB.out⟩
       ·rw[zaB hg] at HS
        have hg':x+1<=1001:=by omega
        go_wp2_with fail
        go_ret
        exact ⟨zaL HS.out,hB.out⟩
    ·have d7:(t.kind==7)=false:=by rw[beq_eq_false_iff_ne];exact h7
     have HS:=zqh (HTn.out h7)
     clear HT7 HTn h7 c1 c2 c3
     by_cases hg:1001<x+1
     ·rw[zaw hg] at HS
      go_wp2_with fail
      go_ret
      exact ⟨by rw[<-HS.out];rfl,hB.out⟩
     ·rw[zaB hg] at HS
      have hg':x+1<=1001:=by omega
      go_wp2_with fail
      go_ret
      exact ⟨by rw[<-HS.out];rfl,hB.out⟩
end Go.Proofs.YtdmodhnhldbpnaaGreat
