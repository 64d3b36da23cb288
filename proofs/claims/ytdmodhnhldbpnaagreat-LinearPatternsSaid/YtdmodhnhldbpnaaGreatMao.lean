/- Joined: GnAnd, NormCatM, GnCatM. -/
import Derived.Test.YtdmodhnhldbpnaaGreatMam
import Derived.Test.YtdmodhnhldbpnaaGreatMan
import Derived.Test.YtdmodhnhldbpnaaGreatMaj
import Derived.Test.YtdmodhnhldbpnaaGreatMak
import Derived.Test.YtdmodhnhldbpnaaGreatMad
import Derived.Test.YtdmodhnhldbpnaaGreatMal
import Derived.Test.YtdmodhnhldbpnaaGreatAid
/- norm.And of any nodes of an arena that may get full. -/
set_option linter.unusedSimpArgs false
set_option linter.unusedVariables false
set_option maxHeartbeats 16000000
set_option maxRecDepth 100000
set_option linter.unusedSectionVars false
namespace Go.Proofs.YtdmodhnhldbpnaaGreat
section
open Go.RowKit
section
variable {AA:World->Value->List Nd->(Nat->Prop)->Prop}
theorem ztJ (S:zaI AA) {w:World} {a v:Value} {ns:List Nd} {F:Nat->Prop} (l:List Int) (h:AA w a ns F) (hv:zb1 w v l) (hI:∀x∈l,zac ns x) (hll:l.length<=20000) :
  Calls Tryz.prog 88 #[a,v] w (Got AA w a ns F fun ms r=>zda ns 5 l ms r):=by
 have hmx:=S.max h
 have HTh:=zqh (zkD S.toArenaMid l h hv hll hI)
 have HA:=zqh h
 have HFi:=zqh (S.fine h)
 have HI:=zqh hI
 have HMx:=zqh hmx
 have HV:=zqh hv
 have HNot:Hid (Calls Tryz.prog 129 #[.agg #[.int .u64 0,.int .u64 0,.int .u64 0,.int .u64 0]] w fun e w'=>e=.returned (.agg #[.int .u64 zbn.not.w0,.int .u64 zbn.not.w1,.int .u64 zbn.not.w2,.int .u64 zbn.not.w3])/\Below w.heap.size w w'):=zqh (ztI zbn zm8 w)
 obtain ⟨gp,rfl⟩:=S.ptr h
 obtain ⟨i0,hi0,hi1,hi2,hi3⟩:=yZ zcJ
 clear h hv hI
 go_enter Tryz.func88,Tryz.ntmps88
 go_wp2_with fail
 refine HTh.out.mono ?_
 rintro e w1 ⟨rfl,hw1⟩
 obtain rfl:w=w1:=hw1.symm
 have HW0:Hid (Below w.heap.size w w):=zqh (qT _ _)
 go_wp2_with fail
 refine HNot.out.mono ?_
 rintro e wn ⟨rfl,hbn⟩
 have HBn:=zqh hbn
 have HAn:=zqh (S.next HA.out hbn)
 have HGn:Hid (∀{e:Ending} {w':World},Got AA wn (.pointer (some ⟨gp,0,none⟩)) ns F (fun ms r=>zda ns 5 l ms r) e w'->Got AA w (.pointer (some ⟨gp,0,none⟩)) ns F (fun ms r=>zda ns 5 l ms r) e w'):=zqh (fun g=>g.from HBn.out)
 have hvn:=HV.out.next hbn
 clear HA HNot HTh hbn
 have hone:=zif zbn.not
 obtain ⟨wm,hwm⟩:∃wm,wm=(wn.alloc (.cells #[.int .u64 0,.int .u64 0,.int .u64 0,.int .u64 0] 46)).setRow wn.heap.size (zgK zbn.not):=⟨_,rfl⟩
 have hAt:At wm wn.heap.size 46 (zgK zbn.not):=by rw[hwm];exact At.row (At.new wn 46 (zgK zbn)) _
 have hBm:Below wn.heap.size wn wm:=by rw[hwm];exact zdD (zqb) zqn _
 have hsm:wm.heap.size=wn.heap.size+1:=by rw[hwm,setRow_size,qV]
 have HMe:Hid (Calls Tryz.prog 125 #[.pointer (some ⟨gp,0,none⟩),.int .i64 5,v] wm fun e w'=>∃v' ms,e=.returned v'/\zas w' (wn.heap.size+1) v' ms/\ms.Nodup/\(∀y,y∈ms↔∃x∈l,y∈mem ns 5 x)/\Below (wn.heap.size+1) wm w'):=zqh (by
  have:=zkK S.toArenaMid 5 (Or.inr rfl) l (S.next HAn.out hBm) (hvn.next hBm) hll HI.out
  rw[hsm] at this
  exact this)
 have HWm:=zqh hwm
 have HBm:=zqh hBm
 have HAtm:=zqh hAt
 have HSm:=zqh hsm
 clear hvn hwm hBm hAt hsm HV HW0
 go_wp2_with (first
  |(with_reducible show wpList _ _ _ (⟨none,.store 46 _ _,_,_,_,_⟩::_) _ _
    refine qN rfl 46 _ _ rfl wn.heap.size (zgK zbn.not) rfl rfl 46 (zgK zbn) (At.new _ _ _) (by kernel_rfl) rfl hone ?_
    first | (change wpList _ _ _ _ _ ((wn.alloc (.cells #[.int .u64 0,.int .u64 0,.int .u64 0,.int .u64 0] 46)).setRow wn.heap.size (zgK zbn.not));rw[<-HWm.out]) | (change Exit.then _ _ _ _ ((wn.alloc (.cells #[.int .u64 0,.int .u64 0,.int .u64 0,.int .u64 0] 46)).setRow wn.heap.size (zgK zbn.not));rw[<-HWm.out]))
  | fail)
 refine HMe.out.mono ?_
 rintro e w2 ⟨v2,ms,rfl,hr2,hnd,hiff,hb2⟩
 have HCol:Hid (ziY ns 5 l ms):=zqh ⟨HI.out,hnd,hiff⟩
 have hB2:Below wn.heap.size wn w2:=HBm.out.trans (hb2.mono (kU _))
 have hS2:wn.heap.size+1<=w2.heap.size:=by have:=hb2.size;have:=HSm.out;omega
 have HO2:Hid (OrI wn ns 5 ms wn.heap.size 0 (.slice none 0 0) v2 zbn.not w2):=zqh ⟨zas.nil _ _,hr2,Or.inl rfl,(hb2.block _ (xW _)).trans HAtm.out,zaP.nil5,(by intro y hy;cases hy),hB2,hS2⟩
 have HA:=HAn
 obtain ⟨A2,c2,rfl⟩:=hr2.len
 have hmsb:ms.length<=20000:=by have:=ziZ HCol.out.nd (fun z hz=>(HCol.out.innF HFi.out (Or.inr rfl) hz).1);have:=HMx.out;omega
 clear hr2 hnd hiff hb2 hB2 hS2 HMe hone
 go_wp2_with fail
 go_loopw [5,7,22] (fun v5 v6 x wr=>∃(j:Nat) (U:St) (hb:Bool),j<=ms.length/\x=.int .i64 j/\v5=.bool hb/\Hid (hb=true↔∃y∈ms.take j,kd ns y=2)/\Hid (OrI wn ns 5 ms wn.heap.size j v6 (.slice A2 ms.length c2) U wr)) (fun _ _ x _=>ms.length-(intOf x).toNat)
 case atStart=>exact ⟨0,zbn.not,false,qK _,rfl,rfl,zqh (Iff.intro (fun q=>by cases q) (fun ⟨y,hy,_⟩=>by cases hy)),HO2⟩
 case round =>
  clear HO2
  obtain ⟨j,U,hb,hj,rfl,rfl,HHb,HO⟩:=hrel
  by_cases hjl:j<ms.length
  ·have hjz:(0:Int)<=(j:Int):=by omega
   have hjn:(j:Int)<(ms.length:Int):=by omega
   obtain ⟨g2,cap2,e2,hcs⟩:=HO.out.src.form (by omega)
   injection e2 with e2 e4 e3
   clear e4
   subst e2 e3
   have cy:=hcs j hjl
   obtain ⟨y,hy⟩:∃y,y=ms[j]:=⟨_,rfl⟩
   rw[<-hy] at cy
   have HYe:=zqh hy
   have hym:y∈ms:=by rw[hy];exact qG _
   have HYm:=zqh hym
   have hyi:=(HCol.out.innF HFi.out (Or.inr rfl) hym).1
   have HYi:=zqh hyi
   have hyI:I64 y:=by unfold zac at hyi;unfold I64;omega
   have HN:=zqh (S.nodeIn y (S.next HA.out HO.out.below) hyI)
   have hdx:decide (0<=y/\y<(ns.length:Int))=true:=qD hyi
   clear hcs hy hym hyi
   go_wp2_with fail
   refine HN.out.mono ?_
   rintro e w4 ⟨u,rfl,hu,hb4⟩
   have hu:=hu HYi.out
   rw[hdx]
   have HU:=zqh hu
   have HKx:Hid (kd ns y=u.kind):=zqh (by unfold kd;rw[<-hu])
   have HXb:=zqh (zbq w4 u)
   have hb5:=hb4.trans ((zaN w4 u).mono hb4.size)
   have HO5:=zqh (HO.out.next hb5)
   have hcl:u.cs.length=8:=rfl
   clear hu hb4 hb5 hdx cy
   obtain ⟨c0,c1,c2,c3,c4,c5,c6,c7⟩:=Nd.cells HXb.out
   by_cases hk0:u.kind=0
   ·have HAl:Hid (zjO ns 5 y=true):=zqh (by show zmO ns y=true;exact qD (HKx.out.trans hk0))
    rw[hk0] at c0
    clear hk0
    go_wp2_with (first
     |(with_reducible show wpList _ _ _ (⟨none,.store 61 _ _,_,_,_,_⟩::_) _ _
       refine qN rfl 61 _ _ rfl w4.heap.size u.cs.toArray rfl rfl 61 Nd.zero.cs.toArray (At.new _ _ _) (by kernel_rfl) rfl (Nd.one u) ?_
       first | change wpList _ _ _ _ _ (zaD w4 u) | change Exit.then _ _ _ _ (zaD w4 u))
     | fail)
    go_ret
    exact HGn.out (Got.stay S.toArenaMid HA.out HO5.out.below HYi.out (zrW HFi.out HCol.out HYm.out (show zmO ns y=true from HAl.out)))
   ·have HAl:Hid (zjO ns 5 y=false):=zqh (by show zmO ns y=false;exact qE (fun q=>hk0 (HKx.out.symm.trans q)))
    have hk0b:=(zab hk0).1
    clear hk0
    by_cases hk2:u.kind=2
    ·have HK2:Hid (kd ns y=2):=zqh (HKx.out.trans hk2)
     rw[hk2] at c0 hk0b
     have hset:=HO5.out.set
     have s0:(zaD w4 u).cell? ⟨wn.heap.size,0,none⟩=some (.int .u64 U.w0):=hset.cell 0
     have s1:(zaD w4 u).cell? ⟨wn.heap.size,1,none⟩=some (.int .u64 U.w1):=hset.cell 1
     have s2:(zaD w4 u).cell? ⟨wn.heap.size,2,none⟩=some (.int .u64 U.w2):=hset.cell 2
     have s3:(zaD w4 u).cell? ⟨wn.heap.size,3,none⟩=some (.int .u64 U.w3):=hset.cell 3
     have hsok:u.set.Ok:=by have:=(zh2 HFi.out HYi.out).2;rw[<-HU.out] at this;exact this.2.1
     have HUn:=zqh (zpy U u.set HO5.out.bytes.1 hsok (zaD w4 u))
     have HBy:Hid (zaP ns 5 (ms.take j++[y]) (U.and u.set)):=zqh (by
      have:=HO5.out.bytes.and HK2.out (by rw[<-HU.out];exact hsok)
      rw[<-HU.out] at this;exact this)
     clear hk2 hk0b hset hsok
     go_wp2_with (first
      |(with_reducible show wpList _ _ _ (⟨none,.store 61 _ _,_,_,_,_⟩::_) _ _
        refine qN rfl 61 _ _ rfl w4.heap.size u.cs.toArray rfl rfl 61 Nd.zero.cs.toArray (At.new _ _ _) (by kernel_rfl) rfl (Nd.one u) ?_
        first | change wpList _ _ _ _ _ (zaD w4 u) | change Exit.then _ _ _ _ (zaD w4 u))
      | fail)
     refine HUn.out.mono ?_
     rintro e w6 ⟨rfl,hb6⟩
     have HO7:=zqh (HO5.out.next hb6)
     have hset:=HO7.out.set
     clear hb6 s0 s1 s2 s3
     go_wp2_with (first
      |(with_reducible show wpList _ _ _ (⟨none,.store 46 _ _,_,_,_,_⟩::_) _ _
        refine qN rfl 46 _ _ rfl wn.heap.size (zgK (U.and u.set)) rfl rfl 46 (zgK U) hset (by kernel_rfl) rfl (zif _) ?_
        obtain ⟨w7,hw7⟩:∃w7,w7=w6.setRow wn.heap.size (zgK (U.and u.set)):=⟨_,rfl⟩
        rw[<-hw7])
      | fail)
     go_roundw
     case rel=>exact ⟨j+1,U.and u.set,true,by omega,by go_num,rfl,zqh (by rw[zbm hjl,<-HYe.out];exact ⟨fun _=>⟨y,yJ _ (by simp),HK2.out⟩,fun _=>rfl⟩),zqh (by exact HO7.out.bytesStep hjl (Or.inr rfl) (by rw[<-HYe.out];exact HK2.out) (by rw[<-HYe.out];exact HBy.out))⟩
     case measure=>simp[intOf];omega
    ·have HK2:Hid (kd ns y≠2):=zqh (fun q=>hk2 (HKx.out.symm.trans q))
     have hk2b:=(zab hk2).1
     clear hk2
     have HIA:=zqh (zqP S.toArenaMid y u (S.next HA.out HO5.out.below) HYi.out HU.out)
     go_wp2_with (first
      |(with_reducible show wpList _ _ _ (⟨none,.store 61 _ _,_,_,_,_⟩::_) _ _
        refine qN rfl 61 _ _ rfl w4.heap.size u.cs.toArray rfl rfl 61 Nd.zero.cs.toArray (At.new _ _ _) (by kernel_rfl) rfl (Nd.one u) ?_
        first | change wpList _ _ _ _ _ (zaD w4 u) | change Exit.then _ _ _ _ (zaD w4 u))
      |(with_reducible show wpList _ _ _ (⟨_,.load 61 (.tmp 10),_,_,_,_⟩::_) _ _
        refine zaa (by rfl) 61 _ rfl w4.heap.size rfl 61 u.cs.toArray (0,0) _ HXb.out Tryz.underlying61 rfl (by rw[qO,Nd.cs_length];kernel_rfl) ?_)
      | fail)
     refine HIA.out.mono ?_
     rintro e w5 ⟨rfl,hb5⟩
     have HO6:=zqh (HO5.out.next hb5)
     clear hb5
     by_cases hal:zfw ns y=true
     ·have HUy:Hid (zev ns 5 y=true):=zqh hal
      rw[hal]
      clear hal
      go_wp2_with fail
      go_roundw
      case rel=>exact ⟨j+1,U,hb,by omega,by go_num,rfl,zqh (by rw[zbm hjl,<-HYe.out];exact ⟨fun q=>by obtain ⟨z,hz,q2⟩:=HHb.out.1 q;exact ⟨z,jH _ hz,q2⟩,fun ⟨z,hz,q2⟩=>by rcases List.mem_append.1 hz with hz | hz;exact HHb.out.2 ⟨z,hz,q2⟩;(rw[List.mem_singleton.1 hz] at q2;exact absurd q2 HK2.out)⟩),zqh (by exact HO6.out.skipStep hjl (by rw[<-HYe.out];exact HK2.out) (by rw[<-HYe.out];exact HUy.out) (by rw[<-HYe.out];exact HAl.out))⟩
      case measure=>simp[intOf];omega
     ·have hal':zfw ns y=false:=by cases q:zfw ns y with | false=>rfl | true=>exact absurd q hal
      have HUy:Hid (zev ns 5 y=false):=zqh hal'
      rw[hal']
      clear hal hal'
      have hal2:Below w5.heap.size w5 (w5.alloc (.cells #[.int .i64 y] 3)):=zqb
      have HO7:=zqh (HO6.out.next hal2)
      have HRw:=zqh HO7.out.row
      have hZ7:=HO7.out.size
      have hfl:((ms.take j).filter (za2 ns 5)).length<=20000:=by
       have:=xA (za2 ns 5) (ms.take j)
       rw[jR] at this
       omega
      clear hal2
      go_wp2_with (first
       |(at_builtin
         refine xI _ rfl _ _ _ rfl (wn.heap.size+1) 3 i0 _ 1 8 Tryz.underlying80 hi0 hi1 hi2 hi3 rfl (by omega) u7 _ _ rfl HRw.out ⟨_,0,none⟩ 1 1 [.int .i64 y] rfl rfl (cell_one_new _ _ _) ?c2 ?c3 ?c4 ?c5 ?_
         case c2=>simp[Value.oneCell']
         case c3=>unfold maxLen;omega
         case c4=>omega
         case c5=>exact hZ7
         intro v' w8 hown8 hg8 _ hat8)
       | fail)
      go_roundw
      case rel=>exact ⟨j+1,U,hb,by omega,by go_num,rfl,zqh (by rw[zbm hjl,<-HYe.out];exact ⟨fun q=>by obtain ⟨z,hz,q2⟩:=HHb.out.1 q;exact ⟨z,jH _ hz,q2⟩,fun ⟨z,hz,q2⟩=>by rcases List.mem_append.1 hz with hz | hz;exact HHb.out.2 ⟨z,hz,q2⟩;(rw[List.mem_singleton.1 hz] at q2;exact absurd q2 HK2.out)⟩),zqh (by exact HO7.out.otherStep hjl (by rw[<-HYe.out];exact HK2.out) (by rw[<-HYe.out];exact HUy.out) (by rw[<-HYe.out];exact HAl.out) (by rw[<-HYe.out];exact hown8) hg8 hat8)⟩
      case measure=>simp[intOf];omega
  ·obtain rfl:j=ms.length:=by omega
   obtain ⟨hrow,hsrc,hap,hset,hby,htop,hbel,hsz⟩:=HO.out
   rw[qQ] at hrow hby htop
   obtain ⟨ot,hot⟩:∃ot,ot=ms.filter (za2 ns 5):=⟨_,rfl⟩
   rw[<-hot] at hrow
   have HOt:=zqh hot
   have HRow:=zqh hrow
   have HBy:=zqh hby
   have HTop:=zqh htop
   have HBel:=zqh hbel
   have HSz:=zqh hsz
   have HHb2:Hid (hb=true↔∃y∈ms,kd ns y=2):=zqh (by have:=HHb.out;rw[qQ] at this;exact this)
   have hotl:ot.length<=20000:=by
    have:=xA (za2 ns 5) ms
    rw[<-hot] at this
    omega
   have s0:wr.cell? ⟨wn.heap.size,0,none⟩=some (.int .u64 U.w0):=hset.cell 0
   have s1:wr.cell? ⟨wn.heap.size,1,none⟩=some (.int .u64 U.w1):=hset.cell 1
   have s2:wr.cell? ⟨wn.heap.size,2,none⟩=some (.int .u64 U.w2):=hset.cell 2
   have s3:wr.cell? ⟨wn.heap.size,3,none⟩=some (.int .u64 U.w3):=hset.cell 3
   have HSet:=zqh hset
   have HCt:=zqh (zh9 U hby.1 wr)
   obtain ⟨A6,c6,e6⟩:=hrow.len
   subst e6
   clear hrow hsrc hap hset hby htop hbel hsz hot HO
   go_wp2_with fail
   refine HCt.out.mono ?_
   rintro e w5 ⟨rfl,hb5⟩
   have HB5:=zqh (HBel.out.trans (hb5.mono HBel.out.size))
   have HRow5:=zqh (HRow.out.next hb5)
   have HSz5:Hid (wn.heap.size+1<=w5.heap.size):=zqh (qH HSz.out hb5.size)
   have hset5:At w5 wn.heap.size 46 (zgK U):=(hb5.block _ HSet.out.lt).trans HSet.out
   have HA5:=zqh (S.next HA.out HB5.out)
   obtain ⟨n,hn⟩:∃n,n=U.list.length:=⟨_,rfl⟩
   rw[<-hn]
   have HNn:=zqh hn
   clear s0 s1 s2 s3 hb5 hn
   by_cases hn0:n=0
   ·have HEm:Hid (∀b,b<256->U.has b=false):=zqh (ze8.1 (by rw[<-HNn.out];exact hn0))
    have HP:=zqh (znl S.toArenaAny HA5.out)
    subst hn0
    go_wp2_with fail
    refine HP.out.mono ?_
    rintro e w6 gr
    obtain ⟨r,_,_,rfl,_⟩:=id gr
    have HG:Hid (Got AA wn (.pointer (some ⟨gp,0,none⟩)) ns F (fun ms r=>zda ns 5 l ms r) (.returned (.int .i64 r)) w6):=zqh ((gr.from HB5.out).mono (fun more r q hfm hi=>zpv HFi.out hfm HCol.out HBy.out HEm.out hi q) S.toArenaMid)
    clear gr
    go_wp2_with fail
    go_ret
    exact HGn.out HG.out
   have hn0b:=(zab (show ¬((n:Int)=0) by omega)).1
   cases hb
   ·have HNo:Hid (∀y∈ms,kd ns y≠2):=zqh (fun y hy q=>by have:=HHb2.out.2 ⟨y,hy,q⟩;cases this)
    by_cases ho0:ot.length=0
    ·have HOe:Hid (ms.filter (za2 ns 5)=[]):=zqh (by rw[<-HOt.out];exact List.length_eq_zero_iff.1 ho0)
     have HP:=zqh (zvR S.toArenaAny HA5.out)
     have ho0':((ot.length:Int)==0)=true:=by rw[ho0];rfl
     rw[ho0]
     clear ho0 ho0'
     go_wp2_with fail
     refine HP.out.mono ?_
     rintro e w6 gr
     obtain ⟨r,_,_,rfl,_⟩:=id gr
     have HG:Hid (Got AA wn (.pointer (some ⟨gp,0,none⟩)) ns F (fun ms r=>zda ns 5 l ms r) (.returned (.int .i64 r)) w6):=zqh ((gr.from HB5.out).mono (fun more r q hfm hi=>zrX HFi.out hfm HCol.out HBy.out HNo.out HOe.out hi q) S.toArenaMid)
     clear gr
     go_wp2_with fail
     go_ret
     exact HGn.out HG.out
    ·have HNs:Hid (0<ns.length):=zqh (by
      obtain ⟨z,hm⟩:∃z,z∈ot:=⟨ot[0]'(by omega),qG _⟩
      rw[HOt.out] at hm
      have:=(HCol.out.innF HFi.out (Or.inr rfl) (List.mem_filter.1 hm).1).1
      unfold zac at this;omega)
     have hob:((ot.length:Int)==0)=false:=(zab (by omega)).1
     have HJ:=zqh (zib S 5 (Or.inr rfl) ot HA5.out HRow5.out (by omega) (fun b e q=>by have:=(HRow5.out.lt e).1;have:=S.low HA.out b q;omega) (fun x hx=>Or.inl (by rw[HOt.out] at hx;exact (HCol.out.innF HFi.out (Or.inr rfl) (List.mem_filter.1 hx).1).1)) HNs.out (by omega))
     clear ho0
     go_wp2_with fail
     refine HJ.out.mono ?_
     rintro e w6 jp
     obtain ⟨r,_,_,rfl,_⟩:=id jp
     have HG:Hid (Got AA wn (.pointer (some ⟨gp,0,none⟩)) ns F (fun ms r=>zda ns 5 l ms r) (.returned (.int .i64 r)) w6):=zqh (zea S.toArenaMid (m1:=[]) (L:=ot) (fun b q=>Or.inl q) (OffF.of HB5.out) (fun b e=>by have:=(HRow5.out.lt e).1;omega) (by rw[jA];exact jp) (fun more r hfm hp _=>zpt HFi.out (m1:=[]) HCol.out HBy.out HNo.out (by rw[<-HOt.out];exact hp)))
     clear jp
     go_wp2_with fail
     go_ret
     exact HGn.out HG.out
   ·have HNe:Hid (U.list.length≠0):=zqh (by rw[<-HNn.out];exact hn0)
    have HMe2:Hid (∃y,y∈ms):=zqh (by obtain ⟨y,hy,_⟩:=HHb2.out.1 (by simp);exact ⟨y,hy⟩)
    have s0:w5.cell? ⟨wn.heap.size,0,none⟩=some (.int .u64 U.w0):=hset5.cell 0
    have s1:w5.cell? ⟨wn.heap.size,1,none⟩=some (.int .u64 U.w1):=hset5.cell 1
    have s2:w5.cell? ⟨wn.heap.size,2,none⟩=some (.int .u64 U.w2):=hset5.cell 2
    have s3:w5.cell? ⟨wn.heap.size,3,none⟩=some (.int .u64 U.w3):=hset5.cell 3
    have HP:=zqh (znq S.toArenaAny U HA5.out HBy.out.1)
    clear hn0 hset5
    go_wp2_with fail
    refine HP.out.mono ?_
    rintro e w6 ⟨b,m1,F1,rfl,g1,g2,g3,g4⟩
    have HNb:Hid (b=-1\/(zac (ns++m1) b/\zaQ (ns++m1) b.toNat=⟨2,U,0,0,false⟩)):=zqh (g4.imp id (fun z=>⟨z.1,by
     rcases z.2 with ⟨q,_⟩ | ⟨_,q⟩
     ·exact absurd q HNe.out
     ·exact q⟩))
    have HF1:=zqh (S.fine g1)
    have hot6:∀c,F c->(Value.slice A6 ot.length c6).ownBlock≠some c:=fun c q e=>by have:=(HRow5.out.lt e).1;have:=S.low HA.out c q;omega
    have hr6:=HRow5.out.off g3 hot6
    have hal:Below w6.heap.size w6 (w6.alloc (.cells #[.int .i64 b] 3)):=zqb
    have HRw:=zqh (hr6.next hal)
    have HAl:=zqh hal
    have HG1:=zqh g1
    have HG2:=zqh g2
    have HO6:Hid (OffF F wn w6):=zqh ((OffF.of HB5.out).off g3 (fun b q=>Or.inl q))
    have HS6:Hid (w5.heap.size<=w6.heap.size):=zqh g3.size
    have hz7:wn.heap.size+1<=(w6.alloc (.cells #[.int .i64 b] 3)).heap.size:=by rw[qV];have:=HSz5.out;have:=HS6.out;omega
    clear g1 g2 g3 g4 hot6 hr6 hal s0 s1 s2 s3
    go_wp2_with (first
     |(at_builtin
       refine xI _ rfl _ _ _ rfl (wn.heap.size+1) 3 i0 _ 1 8 Tryz.underlying80 hi0 hi1 hi2 hi3 rfl (by omega) (.slice A6 ot.length c6) _ _ rfl HRw.out ⟨_,0,none⟩ 1 1 [.int .i64 b] rfl rfl (cell_one_new _ _ _) ?c2 ?c3 ?c4 ?c5 ?_
       case c2=>simp[Value.oneCell']
       case c3=>unfold maxLen;omega
       case c4=>omega
       case c5=>exact hz7
       intro v8 w8 hown8 hg8 _ hat8
       have hr8:zas w8 (wn.heap.size+1) v8 (ot++[b]):=by
        unfold zas
        rw[qF]
        unfold idL
        rw[jE]
        exact hown8
       obtain ⟨A8,c8,e8⟩:=hr8.len
       rw[qF,yE] at e8
       have HR8:=zqh hr8
       have HG8:=zqh hg8
       have HAt8:=zqh hat8
       clear hown8 hg8 hat8 hr8
       subst e8)
     | fail)
    have hfl:∀c,F1 c->(Value.slice A6 ot.length c6).ownBlock≠some c:=fun c q e=>by
     rcases HG2.out c q with z | z
     ·have:=(HRow5.out.lt e).1;have:=S.low HA.out c z;omega
     ·have:=(HRow5.out.lt e).2;omega
    have hA8:AA w8 (.pointer (some ⟨gp,0,none⟩)) (ns++m1) F1:=S.keep (S.next HG1.out HAl.out) (fun c q=>HG8.out.block c (by have:=S.low HG1.out c q;have:=HAl.out.size;omega) (fun e=>hfl c q e.symm))
    have hO8:OffF F wn w8:=(HO6.out.then HAl.out).grown HG8.out (fun c e=>Or.inr (by have:=(HRow5.out.lt e).1;omega))
    have hnF:∀c,(Value.slice A8 (ot.length+1) c8).ownBlock=some c->¬F1 c:=fun c e q=>by
     rcases HAt8.out with z | z
     ·exact hfl c q (z.symm.trans e)
     ·rw[e] at z
      injection z with z
      have:=S.low HG1.out c q
      rw[z,qV] at this
      omega
    have HNs:Hid (0<(ns++m1).length):=zqh (by
     obtain ⟨y,hy⟩:=HMe2.out
     have:=(HCol.out.innF HFi.out (Or.inr rfl) hy).1
     unfold zac at this;rw[qF];omega)
    have HJ:=zqh (zib S 5 (Or.inr rfl) (ot++[b]) hA8 HR8.out (by simp) hnF (fun x hx=>by
     rcases List.mem_append.1 hx with hx | hx
     ·exact Or.inl ((HCol.out.innF HFi.out (Or.inr rfl) (by rw[HOt.out] at hx;exact (List.mem_filter.1 hx).1)).1.up m1)
     ·rw[List.mem_singleton.1 hx];exact HNb.out.elim Or.inr (fun q=>Or.inl q.1)) HNs.out (by rw[qF];simp;omega))
    have HO8:=zqh hO8
    clear hfl hA8 hO8 hnF
    have hol:(((ot.length:Int)+1)==0)=false:=(zab (by omega)).1
    go_wp2_with fail
    refine HJ.out.mono ?_
    rintro e w9 jp
    obtain ⟨r,_,_,rfl,_⟩:=id jp
    have HG:Hid (Got AA wn (.pointer (some ⟨gp,0,none⟩)) ns F (fun ms r=>zda ns 5 l ms r) (.returned (.int .i64 r)) w9):=zqh (zea S.toArenaMid (m1:=m1) (L:=ot++[b]) (fun c q=>by
      rcases HG2.out c q with z | z
      ·exact Or.inl z
      ·exact Or.inr (qH HB5.out.size z)) HO8.out (fun c e=>by have:=(HR8.out.lt e).1;omega) jp (fun more r hfm hp hin=>by
     have hbi:=hin b (yJ _ (by simp))
     rcases HNb.out with q | q
     ·rw[q] at hbi;unfold zac at hbi;omega
     ·exact zpu HFi.out HF1.out HCol.out HBy.out (HHb2.out.1 (by simp)) q.1 q.2 (by rw[<-HOt.out];exact hp)))
    clear jp
    go_wp2_with fail
    go_ret
    exact HGn.out HG.out
theorem zrY (S:ArenaMid AA) {w:World} {a v:Value} {ns:List Nd} {F:Nat->Prop} (l:List Int) (h:AA w a ns F) (hv:zb1 w v l) (hN:∃x∈l,¬zac ns x) (hll:l.length<=20000) :
  Calls Tryz.prog 88 #[a,v] w fun e w'=>e=.returned (.int .i64 (-1))/\Below w.heap.size w w':=by
 have HTh:=zqh (zfc S l h hv hll hN)
 clear h hv hN
 go_enter Tryz.func88,Tryz.ntmps88
 go_wp2_with fail
 refine HTh.out.mono ?_
 rintro e w1 ⟨rfl,hw1⟩
 obtain rfl:w=w1:=hw1.symm
 go_wp2_with fail
 go_ret
 exact ⟨rfl,qT _ _⟩
end
end

section
open Go.RowKit
section
variable {AA:World->Value->List Nd->(Nat->Prop)->Prop}
theorem zlU {ns:List Nd} {k x y:Int} (hk:k=3\/k=4\/k=5) (hx:zac ns x) (hy:zac ns y):(Nd.mk k zbn x y false).right ns.length=true:=by
 unfold zac at hx hy
 unfold Nd.right aIn
 rw[if_neg (by dsimp only;omega),if_neg (by dsimp only;omega),if_pos (by dsimp only;omega),Nd.eqb_self]
 dsimp only
 rw[qD hx.1,qD hx.2,qD hy.1,qD hy.2];rfl
end
end

section
open Go.RowKit
def Vac (ns:List Nd) (x:Int):Prop:=zac ns x/\∀(l bits:List Nat) (i j:Nat),j<=l.length->zai l bits ns x i j=eqF i j
theorem Vac.up {ns:List Nd} {x:Int} (h:Vac ns x) (more:List Nd):Vac (ns++more) x:=⟨h.1.up more,fun l bits i j hj=>by rw[zav l bits more h.1];exact h.2 l bits i j hj⟩
def zhC (ns:List Nd) (x y:Int) (ms:List Nd) (r:Int):Prop:=∀(l bits:List Nat) (i j:Nat),j<=l.length->zai l bits ms r i j=zaF (zai l bits ns x) (zai l bits ns y) (l.length+1) i j
def zpA (ns:List Nd) (x y:Int) (ms:List Nd) (r:Int):Prop:=zhC ns x y ms r/\(kd ms r=0\/(r=y/\Vac ns x)\/(y<r/\kd ms r=3))
section
variable {ns:List Nd} (hf:zaA ns)
include hf
theorem zig {x:Int} (hx:zac ns x) {l bits:List Nat} {i j:Nat} (h:zai l bits ns x i j=true):i<=j:=zh5 hf _ x zqn hx i j h
theorem znr {x y:Int} (hx:Vac ns x) (hy:zac ns y):zhC ns x y ns y:=fun l bits i j hj=>zbU (by
 rw[zao]
 constructor
 ·intro h
  exact ⟨i,by have:=zig hf hy h;omega,qL _,zig hf hy h,by rw[hx.2 l bits i i (by have:=zig hf hy h;omega)];exact (zaR _ _).2 rfl,h⟩
 ·rintro ⟨q,q0,q1,q2,q3,q4⟩
  rw[hx.2 l bits i q (by omega)] at q3
  obtain rfl:=(zaR _ _).1 q3
  exact q4)
theorem zrZ {x y:Int} (hx:zac ns x) (hy:Vac ns y):zhC ns x y ns x:=fun l bits i j hj=>zbU (by
 rw[zao]
 constructor
 ·intro h
  exact ⟨j,by omega,zig hf hx h,qL _,h,by rw[hy.2 l bits j j hj];exact (zaR _ _).2 rfl⟩
 ·rintro ⟨q,q0,q1,q2,q3,q4⟩
  rw[hy.2 l bits q j hj] at q4
  obtain rfl:=(zaR _ _).1 q4
  exact q3)
theorem zns {x:Int} (hx:zac ns x) (k:kd ns x=1):Vac ns x:=⟨hx,fun l bits i j _=>by rw[zkt hf hx k]⟩
theorem zfJ {x:Int} (hx:zac ns x) (k:kd ns x=0) (l bits:List Nat) (i j:Nat):zai l bits ns x i j=false:=by rw[zlC hf hx k];rfl
theorem znt {x y:Int} (hx:zac ns x) (k:kd ns x=0):zhC ns x y ns x:=fun l bits i j hj=>by
 rw[zfJ hf hx k]
 refine (Bool.eq_false_iff.2 (fun h=>?_)).symm
 obtain ⟨q,_,_,_,q3,_⟩:=(zao _ _ _ _ _).1 h
 rw[zfJ hf hx k] at q3;cases q3
theorem znu {x y:Int} (hy:zac ns y) (k:kd ns y=0):zhC ns x y ns y:=fun l bits i j hj=>by
 rw[zfJ hf hy k]
 refine (Bool.eq_false_iff.2 (fun h=>?_)).symm
 obtain ⟨q,_,_,_,_,q4⟩:=(zao _ _ _ _ _).1 h
 rw[zfJ hf hy k] at q4;cases q4
theorem zpB {more:List Nd} (hfm:zaA (ns++more)) {x y r:Int} (hx:zac ns x) (hy:zac ns y) (hr:zac (ns++more) r) (hn:zaQ (ns++more) r.toNat=⟨3,zbn,x,y,false⟩):zpA ns x y (ns++more) r:=by
 have k3:kd (ns++more) r=3:=by unfold kd;rw[hn]
 have ka':ka (ns++more) r=x:=by unfold ka;rw[hn]
 have kb':kb (ns++more) r=y:=by unfold kb;rw[hn]
 refine ⟨fun l bits i j hj=>?_,Or.inr (Or.inr ⟨?_,k3⟩)⟩
 ·rw[zh4 hfm hr k3,ka',kb',zav l bits more hx,zav l bits more hy]
 ·have:=(zaK hfm hr (Or.inl k3)).2.2
  rw[kb'] at this;exact this
theorem zr0 {m1 m2:List Nd} (hf1:zaA (ns++m1)) (hf2:zaA ((ns++m1)++m2)) {x y q r:Int} (hx:zac ns x) (k3:kd ns x=3) (hy:zac ns y) (y0:kd ns y≠0) (hq:zac (ns++m1) q) (hr:zac ((ns++m1)++m2) r)
  (h1:zpA ns (kb ns x) y (ns++m1) q) (q0:kd (ns++m1) q≠0) (h2:zpA (ns++m1) (ka ns x) q ((ns++m1)++m2) r):zpA ns x y ((ns++m1)++m2) r:=by
 obtain ⟨⟨ia,la⟩,ib,lb⟩:=zaK hf hx (Or.inl k3)
 refine ⟨fun l bits i j hj=>?_,?_⟩
 ·rw[h2.1 l bits i j hj,zh4 hf hx k3,zav l bits m1 ia]
  refine zbU ?_
  rw[zao,zao]
  constructor
  ·rintro ⟨p,p0,p1,p2,p3,p4⟩
   rw[h1.1 l bits p j hj,zao] at p4
   obtain ⟨t,t0,t1,t2,t3,t4⟩:=p4
   exact ⟨t,t0,by omega,t2,(zao _ _ _ _ _).2 ⟨p,p0,p1,t1,p3,t3⟩,t4⟩
  ·rintro ⟨t,t0,t1,t2,t3,t4⟩
   rw[zao] at t3
   obtain ⟨p,p0,p1,p2,p3,p4⟩:=t3
   exact ⟨p,p0,p1,by omega,p3,by rw[h1.1 l bits p j hj,zao];exact ⟨t,t0,p2,t2,p4,t4⟩⟩
 ·rcases h2.2 with k | ⟨k,va⟩ | ⟨k,k'⟩
  ·exact Or.inl k
  ·rcases h1.2 with c | ⟨c,vb⟩ | ⟨c,c'⟩
   ·exact absurd c q0
   ·refine Or.inr (Or.inl ⟨k.trans c,hx,fun l bits i j hj=>?_⟩)
    rw[zh4 hf hx k3]
    refine zbU ?_
    rw[zao,zaR]
    constructor
    ·rintro ⟨p,p0,p1,p2,p3,p4⟩
     have e1:=va.2 l bits i p (by omega)
     rw[zav l bits m1 ia] at e1
     rw[e1,zaR] at p3
     rw[vb.2 l bits p j hj,zaR] at p4
     omega
    ·rintro rfl
     have e1:=va.2 l bits i i hj
     rw[zav l bits m1 ia] at e1
     exact ⟨i,by omega,qL _,qL _,by rw[e1];exact (zaR _ _).2 rfl,by rw[vb.2 l bits i i hj];exact (zaR _ _).2 rfl⟩
   ·right;right
    have:kd ((ns++m1)++m2) r=kd (ns++m1) q:=by rw[k];exact zbt hq m2
    exact ⟨by omega,by rw[this];exact c'⟩
  ·right;right
   have:y<=q:=by
    rcases h1.2 with c | ⟨c,_⟩ | ⟨c,_⟩
    ·exact absurd c q0
    ·omega
    ·omega
   exact ⟨by omega,k'⟩
theorem zlV {m1:List Nd} (hf1:zaA (ns++m1)) {x y q:Int} (hx:zac ns x) (k3:kd ns x=3) (hq:zac (ns++m1) q) (h1:zpA ns (kb ns x) y (ns++m1) q) (q0:kd (ns++m1) q=0):zpA ns x y (ns++m1) q:=by
 obtain ⟨⟨ia,la⟩,ib,lb⟩:=zaK hf hx (Or.inl k3)
 refine ⟨fun l bits i j hj=>?_,Or.inl q0⟩
 rw[zfJ hf1 hq q0]
 refine (Bool.eq_false_iff.2 (fun h=>?_)).symm
 obtain ⟨t,t0,t1,t2,t3,t4⟩:=(zao _ _ _ _ _).1 h
 rw[zh4 hf hx k3,zao] at t3
 obtain ⟨p,p0,p1,p2,p3,p4⟩:=t3
 have:=h1.1 l bits p j hj
 rw[zfJ hf1 hq q0] at this
 have h2:=(zao (zai l bits ns (kb ns x)) (zai l bits ns y) (l.length+1) p j).2 ⟨t,t0,p2,t2,p4,t4⟩
 rw[<-this] at h2;cases h2
end
structure za3 (w:World) (a:Value) (ns:List Nd) (F:Nat->Prop) (g:Nat) (mv:Option Nat) (V:List Int):Prop where
 box:At w g 195 #[a,.map mv]
 vac:∀x∈V,Vac ns x
 nodup:V.Nodup
 map:(mv=none/\V=[])\/∃m,mv=some m/\zaT w m V.length V
 gF:¬F g
 mF:∀m,mv=some m->¬F m/\m≠g/\m<w.heap.size
section
variable {w w':World} {a:Value} {ns:List Nd} {F F':Nat->Prop} {g:Nat} {mv:Option Nat} {V:List Int}
theorem za3.kept (h:za3 w a ns F g mv V) (hs:w.heap.size<=w'.heap.size) (hg:w'.heap[g]?=w.heap[g]?) (hm:∀m,mv=some m->w'.heap[m]?=w.heap[m]?) (hF:∀b,F' b->F b\/w.heap.size<=b) (more:List Nd):za3 w' a (ns++more) F' g mv V:=by
 refine ⟨hg.trans h.box,fun x hx=>(h.vac x hx).up more,h.nodup,?_,fun q=>?_,fun m e=>⟨fun q=>?_,(h.mF m e).2.1,qM (h.mF m e).2.2 hs⟩⟩
 ·rcases h.map with q | ⟨m,e,q⟩
  ·exact Or.inl q
  ·exact Or.inr ⟨m,e,q.kept (hm m e)⟩
 ·rcases hF g q with c | c
  ·exact h.gF c
  ·have:=h.box.lt;omega
 ·rcases hF m q with c | c
  ·exact (h.mF m e).1 c
  ·have:=(h.mF m e).2.2;omega
theorem za3.next (h:za3 w a ns F g mv V) (hb:Below w.heap.size w w'):za3 w' a ns F g mv V:=by
 have:=h.kept (F':=F) hb.size (hb.block _ h.box.lt) (fun m e=>hb.block _ (h.mF m e).2.2) (fun b q=>Or.inl q) []
 rwa [jA] at this
theorem za3.off (h:za3 w a ns F g mv V) (ho:OffF F w w') (hF:∀b,F' b->F b\/w.heap.size<=b) (more:List Nd):za3 w' a (ns++more) F' g mv V :=
 h.kept ho.size (ho.block _ h.box.lt h.gF) (fun m e=>ho.block _ (h.mF m e).2.2 (h.mF m e).1) hF more
theorem za3.look (h:za3 w a ns F g mv V) {x:Int} (hx:I64 x):(Instr.lookup 110 (.map mv) (.int .i64 x) true).run Tryz.prog w=.ok (.tuple #[.agg #[],.bool (decide (x∈V))]) w:=by
 rcases h.map with ⟨rfl,rfl⟩ | ⟨m,rfl,q⟩
 ·rw[zrR w hx];simp
 ·exact q.look hx
theorem za3.few (h:za3 w a ns F g mv V):V.length<=ns.length:=zbd (n:=ns.length) h.nodup (fun z hz=>(h.vac z hz).1)
end
section
variable {AA:World->Value->List Nd->(Nat->Prop)->Prop}
def zcd (AA:World->Value->List Nd->(Nat->Prop)->Prop) (w:World) (a:Value) (ns:List Nd) (F:Nat->Prop) (x y:Int) (g:Nat) (mv:Option Nat) (V:List Int) (e:Ending) (w':World):Prop :=
 ∃(r:Int) (more:List Nd) (F':Nat->Prop) (mv':Option Nat) (V':List Int),e=.returned (.int .i64 r)/\AA w' a (ns++more) F'/\(∀b,F' b->F b\/w.heap.size<=b)/\OffF (fun b=>F b\/b=g\/mv=some b) w w'/\za3 w' a (ns++more) F' g mv' V'/\(∀m,mv'=some m->mv=some m\/w.heap.size<=m)/\(∀z∈V',z∈V\/z<=x)/\(r=-1\/(zac (ns++more) r/\zpA ns x y (ns++more) r))
theorem zcd.from {w w1 w':World} {a:Value} {ns:List Nd} {F:Nat->Prop} {x y:Int} {g:Nat} {mv:Option Nat} {V:List Int} {e:Ending} (h:zcd AA w1 a ns F x y g mv V e w') (hb:Below w.heap.size w w1):zcd AA w a ns F x y g mv V e w':=by
 obtain ⟨r,more,F',mv',V',h0,h1,h2,h3,h4,h5,h6,h7⟩:=h
 refine ⟨r,more,F',mv',V',h0,h1,fun b q=>(h2 b q).imp id (fun z=>qH hb.size z),(OffF.of hb).off h3 (fun b q=>Or.inl q),h4,fun m e=>(h5 m e).imp id (fun z=>qH hb.size z),h6,h7⟩
theorem zcd.stay (S:ArenaMid AA) {w w':World} {a:Value} {ns:List Nd} {F:Nat->Prop} {x y r:Int} {g:Nat} {mv:Option Nat} {V:List Int} (h:AA w a ns F) (hc:za3 w a ns F g mv V) (hb:Below w.heap.size w w') (hr:zac ns r) (hR:zpA ns x y ns r):zcd AA w a ns F x y g mv V (.returned (.int .i64 r)) w' :=
 ⟨r,[],F,mv,V,rfl,by rw[jA];exact S.next h hb,fun b q=>Or.inl q,OffF.of hb,by rw[jA];exact hc.next hb,fun m e=>Or.inl e,fun z hz=>Or.inl hz,Or.inr (by rw[jA];exact ⟨hr,hR⟩)⟩
def zkL (AA:World->Value->List Nd->(Nat->Prop)->Prop) (n:Nat):Prop:=∀(x y:Int) {w:World} {a:Value} {ns:List Nd} {F:Nat->Prop} {g:Nat} {mv:Option Nat} {V:List Int},x.toNat<=n->AA w a ns F->zac ns x->zac ns y->kd ns y≠0->kd ns y≠1->za3 w a ns F g mv V ->
 Calls Tryz.prog 164 #[.pointer (some ⟨g,0,none⟩),.int .i64 x,.int .i64 y] w (zcd AA w a ns F x y g mv V)
theorem zuZ {w:World} {a:Value} {ns:List Nd} {F:Nat->Prop} {g:Nat} {mv:Option Nat} {V:List Int} (x:Int) (hmx:ns.length<=20000) (h:za3 w a ns F g mv V) (hx:Vac ns x) (hV:x ∉ V) (hF:∀b,F b->b<w.heap.size) :
  Calls Tryz.prog 207 #[.pointer (some ⟨g,0,none⟩),.int .i64 x] w fun e w'=>e=.returned (.tuple #[])/\∃mv',za3 w' a ns F g mv' (x::V)/\(∀m,mv'=some m->mv=some m\/w.heap.size<=m)/\OffF (fun b=>b=g\/mv=some b) w w':=by
 have hxI:I64 x:=by have:=hx.1;unfold zac at this;unfold I64;omega
 have hfew:=h.few
 have hvx:∀y∈x::V,Vac ns y:=fun y hy=>by
  rcases List.mem_cons.1 hy with rfl | hy
  ·exact hx
  ·exact h.vac y hy
 have q30:∀(w:World) (r:Option Nat),(binOp .eql 110 (.map r) (.map none)).run Tryz.prog w=.ok (.bool r.isNone) w:=fun w r=>run_eql_map_nil w _ _ _ r Tryz.underlying110
 have hgl:=h.box.lt
 rcases h.map with ⟨rfl,rfl⟩ | ⟨m,rfl,hm⟩
 ·have c1:w.cell? ⟨g,1,none⟩=some (.map none):=h.box.cell 1
  have hmm:=@run_makeMap Tryz.prog
  obtain ⟨W,hW⟩:∃W,W=(w.setCell ⟨g,1,none⟩ (.map (some w.heap.size))).alloc (.map #[] 0):=⟨_,rfl⟩
  have hG1:At W g 195 #[a,.map (some w.heap.size)]:=by
   rw[hW]
   exact (h.box.set 1 (.map (some w.heap.size))).alloc _
  have hM1:zaT W w.heap.size 0 []:=by
   have:=zaT.made (w.setCell ⟨g,1,none⟩ (.map (some w.heap.size)))
   rw[jC] at this
   rw[hW];exact this
  have hO1:OffF (fun b=>b=g\/none=some b) w W:=by
   rw[hW]
   exact ((OffF.of (qT _ w)).set (Or.inl rfl) _).then (zqb)
  obtain ⟨W2,s1,s2,s3⟩:=hM1.store hxI (by omega)
  have f1:(w.alloc (.map #[] 0)).frozen? ⟨g,1,none⟩=false:=(h.box.alloc _).free 1
  have c1a:(w.alloc (.map #[] 0)).cell? ⟨g,1,none⟩=some (.map none):=(h.box.alloc _).cell 1
  have c1s:W.cell? ⟨g,1,none⟩=some (.map (some w.heap.size)):=hG1.cell 1
  have hEnd:za3 W2 a ns F g (some w.heap.size) (x::[])/\OffF (fun b=>b=g\/none=some b) w W2:=by
   refine ⟨⟨(s3.block _ hG1.lt (fun e=>by injection e with e;omega)).trans hG1,hvx,List.nodup_cons.2 ⟨hV,h.nodup⟩,Or.inr ⟨_,rfl,s2⟩,h.gF,fun m e=>?_⟩,hO1.grown s3 (fun b e=>by injection e with e;exact Or.inr (by omega))⟩
   injection e with e
   refine ⟨fun q=>?_,by omega,?_⟩
   ·have:=hF m q
    omega
   ·have h1:=s2.lt
    omega
  have HEnd:=zqh hEnd
  rw[hW] at s1 c1s
  clear h hx hV hvx hW hG1 hM1 hO1 s2 s3 hEnd
  go_enter Tryz.func207,Tryz.ntmps207
  go_wp2_with fail
  go_end0
  exact ⟨rfl,_,HEnd.out.1,fun m e=>by injection e with e;exact Or.inr (by omega),HEnd.out.2⟩
 ·have c1:w.cell? ⟨g,1,none⟩=some (.map (some m)):=h.box.cell 1
  obtain ⟨W2,s1,s2,s3⟩:=hm.store hxI (by omega)
  have hEnd:za3 W2 a ns F g (some m) (x::V)/\OffF (fun b=>b=g\/some m=some b) w W2:=by
   refine ⟨⟨(s3.block _ h.box.lt (fun e=>by injection e with e;exact (h.mF m rfl).2.1 e.symm)).trans h.box,hvx,List.nodup_cons.2 ⟨hV,h.nodup⟩,Or.inr ⟨_,rfl,s2⟩,h.gF,fun m' e=>⟨(h.mF m' e).1,(h.mF m' e).2.1,qM (h.mF m' e).2.2 s3.size⟩⟩,(OffF.of (qT _ w)).grown s3 (fun b e=>Or.inl (Or.inr e))⟩
  have HEnd:=zqh hEnd
  clear h hx hV hvx hm s2 s3 hEnd
  go_enter Tryz.func207,Tryz.ntmps207
  go_wp2_with fail
  go_end0
  exact ⟨rfl,_,HEnd.out.1,fun m e=>Or.inl e,HEnd.out.2⟩
end
end
end Go.Proofs.YtdmodhnhldbpnaaGreat
