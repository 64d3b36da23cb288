/- Joined: LwLeft, LwBegin, LwUndo. -/
import Derived.Test.YtdmodhnhldbpnaaGreatMbp
import Derived.StillTailTactics
import Derived.Test.YtdmodhnhldbpnaaGreatAid
/- left of package linear, whole. -/
set_option linter.unusedSimpArgs false
set_option linter.unusedVariables false
set_option maxHeartbeats 16000000
set_option maxRecDepth 100000
namespace Go.Proofs.YtdmodhnhldbpnaaGreat
section
open Go.RowKit
section
variable {p:LP} {w:World} {ns:List Nd} {F:Nat->Prop} {many:Bool}
theorem zot {n:Nat} (IH:∀k,k<n->zuC k) (ms:List Int) (hm:∀y∈ms,zac ns y/\y.toNat<n):zlh p w ns F many 44 (fun x=>#[.pointer (some ⟨p.gw,0,none⟩),.int .i64 x]) ms (V1 p.b p.bt) 1 (zeK ns):=fun y' w1 ns1 F1 many1 y hy g=>by
 obtain ⟨h1,h2⟩:=hm y hy
 refine (IH _ h2 {p with y:=y'} y (g.isIn h1) zqn g.lw).mono (fun e w q=>q.mono (fun more f _ _ hR=>?_))
 obtain ⟨m,rfl⟩:=g.more
 exact zbF.from hR h1
theorem zvm (ms:List Int) (hm:∀y∈ms,zac ns y):zlh p w ns F many 114 (fun x=>#[.pointer (some ⟨p.gw,0,none⟩),.int .i64 x]) ms V0 0 (zhh ns):=fun y' w1 ns1 F1 many1 y hy g=>by
 have h1:=hm y hy
 refine (zoo (p:={p with y:=y'}) y g.lw (g.isIn h1)).mono (fun e w q=>q.mono (fun more f _ _ hR=>?_))
 obtain ⟨m,rfl⟩:=g.more
 rw[zjQ h1] at hR
 exact hR
theorem zs1 {n:Nat} (IH:∀k,k<n->zuC k) (id:Int) (h:LW p w ns F many) (hin:zac ns id) (hr:id.toNat=n) :
  Calls Tryz.prog 77 #[.pointer (some ⟨p.gw,0,none⟩),.int .i64 id] w (za9 p w ns F many fun ms f=>zbF ns id p.b p.bt ms f):=by
 have HX:=zqh hin
 have HI:=zqh hin
 have HRk:=zqh hr
 clear hin hr
 have HW:=zqh h
 have HIH:=zqh IH
 obtain ⟨gp,hgp⟩:=zar.ptr h.ar
 have HN:=zqh (zar.node id h.ar (zcg h.few HX.out))
 rw[show decide (0<=id/\id<(ns.length:Int))=true from qD HX.out] at HN
 have c0:=h.cells.1
 rw[hgp] at c0 HN
 have HFi:=zqh h.fine
 have HFw:=zqh h.few
 clear h IH hgp
 go_enter Tryz.func77,Tryz.ntmps77
 go_wp2_with fail
 refine HN.out.mono ?_
 rintro e w3 ⟨u,rfl,hu,hb3,_⟩
 have hu:=hu HX.out
 have HK:Hid (kd ns id=u.kind/\ka ns id=u.a/\kb ns id=u.b):=zqh ⟨by unfold kd;rw[<-hu],by unfold ka;rw[<-hu],by unfold kb;rw[<-hu]⟩
 have HU:=zqh hu
 have HXb:=zqh (zbq w3 u)
 have HG:=zqh (za8.of HW.out (hb3.trans ((zaN w3 u).mono hb3.size)))
 have hone:=Nd.one u
 have ck:=(Nd.cells HXb.out).1
 have cA:=(Nd.cells HXb.out).2.2.2.2.2.1
 clear hu hb3
 have cB:=(Nd.cells HXb.out).2.2.2.2.2.2.1
 have HSr:Hid ((zaD w3 u).rangeAt w3.heap.size 1 [.int .u64 u.set.w0,.int .u64 u.set.w1,.int .u64 u.set.w2,.int .u64 u.set.w3]):=zqh (by
  obtain ⟨_,s0,s1,s2,s3,_⟩:=Nd.cells HXb.out
  intro j v hj
  match j,hj with
  | 0,hj=>injection hj with hj;subst hj;exact s0
  | 1,hj=>injection hj with hj;subst hj;exact s1
  | 2,hj=>injection hj with hj;subst hj;exact s2
  | 3,hj=>injection hj with hj;subst hj;exact s3
  | j+4,hj=>simp at hj)
 by_cases hk2:u.kind=2
 ·have HKd:=zqh hk2
  rw[hk2] at ck
  clear hk2
  have HC:=zqh (zmn id u.set HG.out.lw HI.out (by rw[HK.out.1];exact HKd.out) (by rw[HU.out]))
  go_wp2_with (first
   |(with_reducible show wpList _ _ _ (⟨none,.store 61 _ _,_,_,_,_⟩::_) _ _
     refine qN rfl 61 _ _ rfl w3.heap.size u.cs.toArray rfl rfl 61 Nd.zero.cs.toArray (At.new _ _ _) (by kernel_rfl) rfl hone ?_
     first | change wpList _ _ _ _ _ (zaD w3 u) | change Exit.then _ _ _ _ (zaD w3 u))
   |(with_reducible show wpList _ _ _ (⟨_,.load 61 _,_,_,_,_⟩::_) _ _
     refine zaa (by rfl) 61 _ rfl w3.heap.size rfl 61 u.cs.toArray (0,0) _ HXb.out Tryz.underlying61 rfl (by rw[qO,Nd.cs_length];kernel_rfl) ?_)
   |(with_reducible show wpList _ _ _ (⟨_,.load 46 _,_,_,_,_⟩::_) _ _
     refine wpList_load_mid rfl 46 _ rfl w3.heap.size 1 rfl [.int .u64 u.set.w0,.int .u64 u.set.w1,.int .u64 u.set.w2,.int .u64 u.set.w3] _ HSr.out Tryz.underlying46 rfl (by kernel_rfl) ?_)
   | fail)
  refine HC.out.mono ?_
  rintro e w6 ⟨v6,f,ns6,F6,many6,rfl,hg6,hk6,hi6,hd6⟩
  obtain ⟨A6,c6,hv6⟩:=hk6.at
  subst hv6
  have HG6:=zqh (HG.out.trans hg6)
  have HK6:=zqh hk6
  have HI6:=zqh hi6
  have HD6:=zqh hd6
  clear hg6 hk6 hi6 hd6
  go_wp2_with fail
  go_ret
  exact za9.done HG6.out HK6.out HI6.out HD6.out
 have hb2:=(zab hk2).1
 clear hk2
 by_cases hk3:u.kind=3
 ·have HKd:=zqh hk3
  rw[hk3] at ck
  clear hk3 hb2
  have HC:=zqh (zqy HIH.out id u.a u.b HG.out.lw HI.out (by rw[HK.out.1];exact HKd.out) HK.out.2.1 HK.out.2.2 (by have:=HRk.out;omega))
  go_wp2_with (first
   |(with_reducible show wpList _ _ _ (⟨none,.store 61 _ _,_,_,_,_⟩::_) _ _
     refine qN rfl 61 _ _ rfl w3.heap.size u.cs.toArray rfl rfl 61 Nd.zero.cs.toArray (At.new _ _ _) (by kernel_rfl) rfl hone ?_
     first | change wpList _ _ _ _ _ (zaD w3 u) | change Exit.then _ _ _ _ (zaD w3 u))
   |(with_reducible show wpList _ _ _ (⟨_,.load 61 _,_,_,_,_⟩::_) _ _
     refine zaa (by rfl) 61 _ rfl w3.heap.size rfl 61 u.cs.toArray (0,0) _ HXb.out Tryz.underlying61 rfl (by rw[qO,Nd.cs_length];kernel_rfl) ?_)
   |(with_reducible show wpList _ _ _ (⟨_,.load 46 _,_,_,_,_⟩::_) _ _
     refine wpList_load_mid rfl 46 _ rfl w3.heap.size 1 rfl [.int .u64 u.set.w0,.int .u64 u.set.w1,.int .u64 u.set.w2,.int .u64 u.set.w3] _ HSr.out Tryz.underlying46 rfl (by kernel_rfl) ?_)
   | fail)
  refine HC.out.mono ?_
  rintro e w6 ⟨v6,f,ns6,F6,many6,rfl,hg6,hk6,hi6,hd6⟩
  obtain ⟨A6,c6,hv6⟩:=hk6.at
  subst hv6
  have HG6:=zqh (HG.out.trans hg6)
  have HK6:=zqh hk6
  have HI6:=zqh hi6
  have HD6:=zqh hd6
  clear hg6 hk6 hi6 hd6
  go_wp2_with fail
  go_ret
  exact za9.done HG6.out HK6.out HI6.out HD6.out
 have hb3:=(zab hk3).1
 clear hk3
 by_cases hk4:u.kind=4
 ·have HKd:=zqh hk4
  rw[hk4] at ck
  clear hk4 hb2 hb3
  obtain ⟨⟨ia,la⟩,ib,lb⟩:=zaK HFi.out HX.out (by rw[HK.out.1];have:=HKd.out;omega)
  rw[HK.out.2.1] at ia la
  rw[HK.out.2.2] at ib lb
  have HM:=zqh (zef 4 (by omega) HG.out.lw u HKd.out ia ib)
  have HMm:Hid (∀y,(y∈mem ns 4 u.a\/y∈mem ns 4 u.b)->zac ns y/\y<id):=zqh (fun y hy=>by
   rcases hy with hy | hy
   ·obtain ⟨q1,q2,_⟩:=zcs HFi.out (by omega) _ u.a zqn ia y hy
    exact ⟨q1,by omega⟩
   ·obtain ⟨q1,q2,_⟩:=zcs HFi.out (by omega) _ u.b zqn ib y hy
    exact ⟨q1,by omega⟩)
  clear ia la ib lb
  go_wp2_with (first
   |(with_reducible show wpList _ _ _ (⟨none,.store 61 _ _,_,_,_,_⟩::_) _ _
     refine qN rfl 61 _ _ rfl w3.heap.size u.cs.toArray rfl rfl 61 Nd.zero.cs.toArray (At.new _ _ _) (by kernel_rfl) rfl hone ?_
     first | change wpList _ _ _ _ _ (zaD w3 u) | change Exit.then _ _ _ _ (zaD w3 u))
   |(with_reducible show wpList _ _ _ (⟨_,.load 61 _,_,_,_,_⟩::_) _ _
     refine zaa (by rfl) 61 _ rfl w3.heap.size rfl 61 u.cs.toArray (0,0) _ HXb.out Tryz.underlying61 rfl (by rw[qO,Nd.cs_length];kernel_rfl) ?_)
   |(with_reducible show wpList _ _ _ (⟨_,.load 46 _,_,_,_,_⟩::_) _ _
     refine wpList_load_mid rfl 46 _ rfl w3.heap.size 1 rfl [.int .u64 u.set.w0,.int .u64 u.set.w1,.int .u64 u.set.w2,.int .u64 u.set.w3] _ HSr.out Tryz.underlying46 rfl (by kernel_rfl) ?_)
   | fail)
  refine HM.out.mono ?_
  rintro e w5 ⟨v5,ms,rfl,hr5,hnd,hmm,hb5⟩
  have hin5:∀y∈ms,zac ns y/\y<id:=fun y hy=>HMm.out y ((hmm y).1 hy)
  have hms:∀y,y∈ms↔y∈mem ns 4 id:=fun y=>by
   rw[hmm y,zbV HFi.out (by omega) HX.out (by rw[HK.out.1];exact HKd.out),HK.out.2.1,HK.out.2.2,yO]
  have hlen:ms.length<=20000:=qH (zbd hnd (fun z hz=>(hin5 z hz).1)) HFw.out
  have hG5:=HG.out.next hb5
  have hkl:zbP (XY p F) w5 v5 ms:=zas.keepsL hr5 (fun b q=>HG.out.lw.lowY b q) (fun y hy=>zcp HFw.out (hin5 y hy).1) hlen
  have HC:=zqh (lOr zof hG5.lw hkl (zot (F:=F) (many:=many) HIH.out ms (fun y hy=>by obtain ⟨q1,q2⟩:=hin5 y hy;refine ⟨q1,?_⟩;have:=HRk.out;unfold zac at q1;omega)))
  have HG5:=zqh hG5
  have HMs:=zqh hms
  obtain ⟨A5,c5,hv5,_⟩:=hkl.here
  subst hv5
  clear hr5 hnd hmm hb5 hin5 hms hG5 hkl
  go_wp2_with fail
  refine HC.out.mono ?_
  rintro e w6 ⟨v6,f,ns6,F6,many6,rfl,hg6,hk6,hi6,hd6⟩
  obtain ⟨A6,c6,hv6⟩:=hk6.at
  subst hv6
  have HG6:=zqh (HG5.out.trans hg6)
  have HK6:=zqh hk6
  have HI6:=zqh hi6
  have HD6:=zqh hd6
  clear hg6 hk6 hi6 hd6
  go_wp2_with fail
  go_ret
  exact za9.done HG6.out HK6.out HI6.out (fun q=>zkv HFi.out HI.out HMs.out (HD6.out q))
 have hb4:=(zab hk4).1
 clear hk4
 by_cases hk5:u.kind=5
 ·have HKd:=zqh hk5
  rw[hk5] at ck
  clear hk5 hb2 hb3 hb4
  obtain ⟨⟨ia,la⟩,ib,lb⟩:=zaK HFi.out HX.out (by rw[HK.out.1];have:=HKd.out;omega)
  rw[HK.out.2.1] at ia la
  rw[HK.out.2.2] at ib lb
  have HM:=zqh (zef 5 (by omega) HG.out.lw u HKd.out ia ib)
  have HMm:Hid (∀y,(y∈mem ns 5 u.a\/y∈mem ns 5 u.b)->zac ns y/\y<id):=zqh (fun y hy=>by
   rcases hy with hy | hy
   ·obtain ⟨q1,q2,_⟩:=zcs HFi.out (by omega) _ u.a zqn ia y hy
    exact ⟨q1,by omega⟩
   ·obtain ⟨q1,q2,_⟩:=zcs HFi.out (by omega) _ u.b zqn ib y hy
    exact ⟨q1,by omega⟩)
  clear ia la ib lb
  go_wp2_with (first
   |(with_reducible show wpList _ _ _ (⟨none,.store 61 _ _,_,_,_,_⟩::_) _ _
     refine qN rfl 61 _ _ rfl w3.heap.size u.cs.toArray rfl rfl 61 Nd.zero.cs.toArray (At.new _ _ _) (by kernel_rfl) rfl hone ?_
     first | change wpList _ _ _ _ _ (zaD w3 u) | change Exit.then _ _ _ _ (zaD w3 u))
   |(with_reducible show wpList _ _ _ (⟨_,.load 61 _,_,_,_,_⟩::_) _ _
     refine zaa (by rfl) 61 _ rfl w3.heap.size rfl 61 u.cs.toArray (0,0) _ HXb.out Tryz.underlying61 rfl (by rw[qO,Nd.cs_length];kernel_rfl) ?_)
   |(with_reducible show wpList _ _ _ (⟨_,.load 46 _,_,_,_,_⟩::_) _ _
     refine wpList_load_mid rfl 46 _ rfl w3.heap.size 1 rfl [.int .u64 u.set.w0,.int .u64 u.set.w1,.int .u64 u.set.w2,.int .u64 u.set.w3] _ HSr.out Tryz.underlying46 rfl (by kernel_rfl) ?_)
   | fail)
  refine HM.out.mono ?_
  rintro e w5 ⟨v5,ms,rfl,hr5,hnd,hmm,hb5⟩
  have hin5:∀y∈ms,zac ns y/\y<id:=fun y hy=>HMm.out y ((hmm y).1 hy)
  have hms:∀y,y∈ms↔y∈mem ns 5 id:=fun y=>by
   rw[hmm y,zbV HFi.out (by omega) HX.out (by rw[HK.out.1];exact HKd.out),HK.out.2.1,HK.out.2.2,yO]
  have hlen:ms.length<=20000:=qH (zbd hnd (fun z hz=>(hin5 z hz).1)) HFw.out
  have hG5:=HG.out.next hb5
  have hkl:zbP (XY p F) w5 v5 ms:=zas.keepsL hr5 (fun b q=>HG.out.lw.lowY b q) (fun y hy=>zcp HFw.out (hin5 y hy).1) hlen
  have HC:=zqh (zuB zof hG5.lw hkl hlen (zot (F:=F) (many:=many) HIH.out ms (fun y hy=>by obtain ⟨q1,q2⟩:=hin5 y hy;refine ⟨q1,?_⟩;have:=HRk.out;unfold zac at q1;omega)))
  have HG5:=zqh hG5
  have HMs:=zqh hms
  obtain ⟨A5,c5,hv5,_⟩:=hkl.here
  subst hv5
  clear hr5 hnd hmm hb5 hin5 hms hG5 hkl
  go_wp2_with fail
  refine HC.out.mono ?_
  rintro e w6 ⟨v6,f,ns6,F6,many6,rfl,hg6,hk6,hi6,hd6⟩
  obtain ⟨A6,c6,hv6⟩:=hk6.at
  subst hv6
  have HG6:=zqh (HG5.out.trans hg6)
  have HK6:=zqh hk6
  have HI6:=zqh hi6
  have HD6:=zqh hd6
  clear hg6 hk6 hi6 hd6
  go_wp2_with fail
  go_ret
  exact za9.done HG6.out HK6.out HI6.out (fun q=>zkw HFi.out HI.out HMs.out (HD6.out q))
 have hb5:=(zab hk5).1
 clear hk5
 by_cases hk6:u.kind=6
 ·have HKd:=zqh hk6
  rw[hk6] at ck
  clear hk6 hb2 hb3 hb4 hb5
  obtain ⟨ia,la⟩:=zbT HFi.out HX.out (by rw[HK.out.1];have:=HKd.out;omega)
  have HCh:=zqh (HIH.out u.a.toNat (by have:=HRk.out;rw[HK.out.2.1] at ia la;unfold zac at ia;omega) p u.a (by rw[<-HK.out.2.1];exact ia) zqn HG.out.lw)
  have HIa:=zqh ia
  clear ia la
  go_wp2_with (first
   |(with_reducible show wpList _ _ _ (⟨none,.store 61 _ _,_,_,_,_⟩::_) _ _
     refine qN rfl 61 _ _ rfl w3.heap.size u.cs.toArray rfl rfl 61 Nd.zero.cs.toArray (At.new _ _ _) (by kernel_rfl) rfl hone ?_
     first | change wpList _ _ _ _ _ (zaD w3 u) | change Exit.then _ _ _ _ (zaD w3 u))
   |(with_reducible show wpList _ _ _ (⟨_,.load 61 _,_,_,_,_⟩::_) _ _
     refine zaa (by rfl) 61 _ rfl w3.heap.size rfl 61 u.cs.toArray (0,0) _ HXb.out Tryz.underlying61 rfl (by rw[qO,Nd.cs_length];kernel_rfl) ?_)
   |(with_reducible show wpList _ _ _ (⟨_,.load 46 _,_,_,_,_⟩::_) _ _
     refine wpList_load_mid rfl 46 _ rfl w3.heap.size 1 rfl [.int .u64 u.set.w0,.int .u64 u.set.w1,.int .u64 u.set.w2,.int .u64 u.set.w3] _ HSr.out Tryz.underlying46 rfl (by kernel_rfl) ?_)
   | fail)
  refine HCh.out.mono ?_
  rintro e w4 ⟨v4,f4,ns4,F4,many4,rfl,hg4,hk4,hi4,hd4⟩
  have HDu:=zqh (zvh hg4.lw hk4 hi4)
  obtain ⟨A4,c4,hv4⟩:=hk4.at
  subst hv4
  have HG4:=zqh (HG.out.trans hg4)
  have HI4:=zqh hi4
  have HD4:=zqh hd4
  clear hg4 hk4 hi4 hd4
  go_wp2_with fail
  refine HDu.out.mono ?_
  rintro e w5 ⟨v5,d5,ns5,F5,many5,rfl,hg5,hk5,hi5,hd5⟩
  have HRe:=zqh (zsU zfW hg5.lw hk5 hi5 (fun q hq=>zvm q (fun y hy=>hi5.inF q hq y hy)))
  obtain ⟨A5,c5,hv5⟩:=hk5.at
  subst hv5
  have HG45:=zqh hg5
  have HG5:=zqh (HG4.out.trans hg5)
  have HD5:=zqh hd5
  clear hg5 hk5 hi5 hd5
  go_wp2_with fail
  refine HRe.out.mono ?_
  rintro e w6 ⟨v6,f,ns6,F6,many6,rfl,hg6,hk6,hi6,hd6⟩
  obtain ⟨A6,c6,hv6⟩:=hk6.at
  subst hv6
  have HG46:=zqh hg6
  have HG6:=zqh (HG5.out.trans hg6)
  have HK6:=zqh hk6
  have HI6:=zqh hi6
  have HD6:=zqh hd6
  clear hg6 hk6 hi6 hd6
  go_wp2_with fail
  go_ret
  refine za9.done HG6.out HK6.out HI6.out (fun hm=>?_)
  have hm5:many5=false:=by cases many5 with | false=>rfl | true=>have:=HG46.out.mono rfl;rw[hm] at this;cases this
  have hm4:many4=false:=by cases many4 with | false=>rfl | true=>have:=HG45.out.mono rfl;rw[hm5] at this;cases this
  obtain ⟨m,rfl⟩:=HG45.out.more
  exact zpe HFi.out HI.out (by rw[HK.out.1];exact HKd.out) (by rw[HK.out.2.1];exact Den.up (HD4.out hm4) HI4.out.inF m) (HD5.out hm5).2 (HD6.out hm)
 have hb6:=(zab hk6).1
 clear hk6
 by_cases hk7:u.kind=7
 ·have HKd:=zqh hk7
  rw[hk7] at ck
  clear hk7 hb2 hb3 hb4 hb5 hb6
  obtain ⟨ia,la⟩:=zbT HFi.out HX.out (by rw[HK.out.1];have:=HKd.out;omega)
  have HCh:=zqh (HIH.out u.a.toNat (by have:=HRk.out;rw[HK.out.2.1] at ia la;unfold zac at ia;omega) p u.a (by rw[<-HK.out.2.1];exact ia) zqn HG.out.lw)
  have HIa:=zqh ia
  clear ia la
  go_wp2_with (first
   |(with_reducible show wpList _ _ _ (⟨none,.store 61 _ _,_,_,_,_⟩::_) _ _
     refine qN rfl 61 _ _ rfl w3.heap.size u.cs.toArray rfl rfl 61 Nd.zero.cs.toArray (At.new _ _ _) (by kernel_rfl) rfl hone ?_
     first | change wpList _ _ _ _ _ (zaD w3 u) | change Exit.then _ _ _ _ (zaD w3 u))
   |(with_reducible show wpList _ _ _ (⟨_,.load 61 _,_,_,_,_⟩::_) _ _
     refine zaa (by rfl) 61 _ rfl w3.heap.size rfl 61 u.cs.toArray (0,0) _ HXb.out Tryz.underlying61 rfl (by rw[qO,Nd.cs_length];kernel_rfl) ?_)
   |(with_reducible show wpList _ _ _ (⟨_,.load 46 _,_,_,_,_⟩::_) _ _
     refine wpList_load_mid rfl 46 _ rfl w3.heap.size 1 rfl [.int .u64 u.set.w0,.int .u64 u.set.w1,.int .u64 u.set.w2,.int .u64 u.set.w3] _ HSr.out Tryz.underlying46 rfl (by kernel_rfl) ?_)
   | fail)
  refine HCh.out.mono ?_
  rintro e w4 ⟨v4,f4,ns4,F4,many4,rfl,hg4,hk4,hi4,hd4⟩
  have HRe:=zqh (zrg id hg4.lw hk4 hi4 (hg4.isIn HI.out))
  obtain ⟨A4,c4,hv4⟩:=hk4.at
  subst hv4
  have HG4:=zqh (HG.out.trans hg4)
  have HI4:=zqh hi4
  have HD4:=zqh hd4
  clear hg4 hk4 hi4 hd4
  go_wp2_with fail
  refine HRe.out.mono ?_
  rintro e w6 ⟨v6,f,ns6,F6,many6,rfl,hg6,hk6,hi6,hd6⟩
  obtain ⟨A6,c6,hv6⟩:=hk6.at
  subst hv6
  have HG46:=zqh hg6
  have HG6:=zqh (HG4.out.trans hg6)
  have HK6:=zqh hk6
  have HI6:=zqh hi6
  have HD6:=zqh hd6
  clear hg6 hk6 hi6 hd6
  go_wp2_with fail
  go_ret
  refine za9.done HG6.out HK6.out HI6.out (fun hm=>?_)
  have hm4:many4=false:=by cases many4 with | false=>rfl | true=>have:=HG46.out.mono rfl;rw[hm] at this;cases this
  obtain ⟨m,rfl⟩:=HG4.out.more
  exact zm3 HFi.out HI.out (by rw[HK.out.1];exact HKd.out) (by rw[HK.out.2.1];exact HD4.out hm4) (fun l bits=>zav l bits m HI.out) (HD6.out hm)
 have hb7:=(zab hk7).1
 clear hk7
 have HC:=zqh (zhd (zaD w3 u))
 have HKn:Hid (kd ns id=0\/kd ns id=1\/kd ns id=8):=zqh (by
  have k:=zh3 HFi.out HX.out
  rw[HK.out.1] at k ⊢
  have k2:u.kind≠2:=fun q=>by rw[q] at hb2;cases hb2
  have k3:u.kind≠3:=fun q=>by rw[q] at hb3;cases hb3
  have k4:u.kind≠4:=fun q=>by rw[q] at hb4;cases hb4
  have k5:u.kind≠5:=fun q=>by rw[q] at hb5;cases hb5
  have k6:u.kind≠6:=fun q=>by rw[q] at hb6;cases hb6
  have k7:u.kind≠7:=fun q=>by rw[q] at hb7;cases hb7
  omega)
 clear cA cB
 go_wp2_with (first
   |(with_reducible show wpList _ _ _ (⟨none,.store 61 _ _,_,_,_,_⟩::_) _ _
     refine qN rfl 61 _ _ rfl w3.heap.size u.cs.toArray rfl rfl 61 Nd.zero.cs.toArray (At.new _ _ _) (by kernel_rfl) rfl hone ?_
     first | change wpList _ _ _ _ _ (zaD w3 u) | change Exit.then _ _ _ _ (zaD w3 u))
   |(with_reducible show wpList _ _ _ (⟨_,.load 61 _,_,_,_,_⟩::_) _ _
     refine zaa (by rfl) 61 _ rfl w3.heap.size rfl 61 u.cs.toArray (0,0) _ HXb.out Tryz.underlying61 rfl (by rw[qO,Nd.cs_length];kernel_rfl) ?_)
   |(with_reducible show wpList _ _ _ (⟨_,.load 46 _,_,_,_,_⟩::_) _ _
     refine wpList_load_mid rfl 46 _ rfl w3.heap.size 1 rfl [.int .u64 u.set.w0,.int .u64 u.set.w1,.int .u64 u.set.w2,.int .u64 u.set.w3] _ HSr.out Tryz.underlying46 rfl (by kernel_rfl) ?_)
   | fail)
 refine HC.out.mono ?_
 rintro e w5 ⟨A5,c5,rfl,hf5,hb5⟩
 have HK5:=zqh (zaZ.keeps HG.out.lw hf5)
 have HG5:=zqh (HG.out.next hb5)
 clear hf5
 go_wp2_with fail
 go_ret
 exact za9.done HG5.out HK5.out (zbf.nil _) (fun q=>zrG HFi.out HI.out HKn.out)
end
theorem zvU:∀n:Nat,zuC n:=fun n=>Nat.strongRecOn n (fun n IH=>fun p w ns F many id hi hr hw=>by
 refine zsY id (zcg hw.few hi) hw (Or.inl hi) (fun hm=>?_)
 exact zs1 (n:=id.toNat) (fun k hk=>IH k (qM hk hr)) id hw hi rfl)
section
variable {p:LP} {w:World} {ns:List Nd} {F:Nat->Prop} {many:Bool}
theorem zou (ms:List Int) (hm:∀y∈ms,zac ns y):zlh p w ns F many 44 (fun x=>#[.pointer (some ⟨p.gw,0,none⟩),.int .i64 x]) ms (V1 p.b p.bt) 1 (zeK ns):=zot (n:=ns.length) (fun k _=>zvU k) ms (fun y hy=>⟨hm y hy,by have:=hm y hy;unfold zac at this;omega⟩)
end
end

section
open Go.RowKit
structure zga (p:LP) (w:World) (a:Value) (ns:List Nd) (F:Nat->Prop) (b bt:Nat) (w':World):Prop where
 lw:LW p w' ns F false
 below:Below w.heap.size w w'
 a:p.a=a
 b:p.b=b
 bt:p.bt=bt
 before:p.before=ns.length
 y:∀x,¬p.y x
 new:w.heap.size<=p.gw/\w.heap.size<=p.mf/\w.heap.size<=p.ml/\w.heap.size<=p.mn
theorem zlm {w:World} {a:Value} {ns:List Nd} {F:Nat->Prop} (b bt:Nat) (h:AA w a ns F) (hb:b<256) (hbt:bt<256) :
  Calls Tryz.prog 25 #[a,.int .u8 b,.int .u8 bt] w fun e w'=>∃p,e=.returned (.pointer (some ⟨p.gw,0,none⟩))/\zga p w a ns F b bt w':=by
 obtain ⟨gp,hgp⟩:=zar.ptr h
 have HA:=zqh h
 have HP:=zqh hgp
 obtain ⟨w1,hw1⟩:∃w1,w1=w.alloc (.map #[] 0):=⟨_,rfl⟩
 obtain ⟨w2,hw2⟩:∃w2,w2=w1.alloc (.map #[] 0):=⟨_,rfl⟩
 obtain ⟨w3,hw3⟩:∃w3,w3=w2.alloc (.map #[] 0):=⟨_,rfl⟩
 have s1:w1.heap.size=w.heap.size+1:=by rw[hw1,qV]
 have s2:w2.heap.size=w.heap.size+2:=by rw[hw2,qV,s1]
 have s3:w3.heap.size=w.heap.size+3:=by rw[hw3,qV,s2]
 have hb1:Below w1.heap.size w1 w3:=by rw[hw3,hw2];exact (zqb).alloc (by rw[qV];omega) _
 have hb2:Below w2.heap.size w2 w3:=by rw[hw3];exact zqb
 have hb0:Below w.heap.size w w3:=by rw[hw3,hw2,hw1];exact ((zqb).alloc (by rw[qV];omega) _).alloc (by rw[qV,qV];omega) _
 have k1:ziq w3 w.heap.size [] (fun _=>.slice none 0 0):=(by rw[hw1];exact ziq.made w _:ziq w1 w.heap.size [] (fun _=>.slice none 0 0)).kept (hb1.block _ (by omega))
 have k2:ziq w3 w1.heap.size [] (fun _=>.slice none 0 0):=(by rw[hw2];exact ziq.made w1 _:ziq w2 w1.heap.size [] (fun _=>.slice none 0 0)).kept (hb2.block _ (by omega))
 have k3:za1 w3 w2.heap.size (zan ns bt) []:=by rw[hw3];exact za1.made w2 _
 rw[s1] at k2
 rw[s2] at k3
 obtain ⟨w4,hw4⟩:∃w4,w4=w3.alloc (.cells #[a,.int .u8 b,.int .u8 bt,.map (some w.heap.size),.map (some (w.heap.size+1)),.map (some (w.heap.size+2)),.int .i64 ns.length,.bool false] 101):=⟨_,rfl⟩
 have hb4:Below w3.heap.size w3 w4:=by rw[hw4];exact zqb
 have HB4:Hid (zga ⟨w.heap.size+3,w.heap.size,w.heap.size+1,w.heap.size+2,a,b,bt,ns.length,fun _=>False⟩ w a ns F b bt w4):=zqh (by
  have hlow:=AA.low h
  refine ⟨⟨(h.next hb0).next hb4,?_,⟨_,_,k1.kept (hb4.block _ (by omega)),fun x hx=>by cases hx⟩,⟨_,_,k2.kept (hb4.block _ (show w.heap.size+1<w3.heap.size by omega)),fun x hx=>by cases hx⟩,⟨[],k3.kept (hb4.block _ (show w.heap.size+2<w3.heap.size by omega)),gO,fun z hz=>by cases hz⟩,?_,?_,⟨hb,hbt⟩,fun x q=>q.elim⟩,hb0.trans (hb4.mono (by omega)),rfl,rfl,rfl,rfl,fun x q=>q,?_⟩
  ·rw[hw4]
   have:=At.new w3 101 #[a,.int .u8 b,.int .u8 bt,.map (some w.heap.size),.map (some (w.heap.size+1)),.map (some (w.heap.size+2)),.int .i64 ns.length,.bool false]
   rw[s3] at this
   exact this
  ·simp only;omega
  ·exact ⟨fun q=>absurd (show w.heap.size+3<w.heap.size from hlow _ q) (by omega),fun q=>absurd (show w.heap.size<w.heap.size from hlow _ q) (by omega),fun q=>absurd (show w.heap.size+1<w.heap.size from hlow _ q) (by omega),fun q=>absurd (show w.heap.size+2<w.heap.size from hlow _ q) (by omega)⟩
  ·simp only;omega)
 have HLe:=zqh (zar.len (h.next hb0))
 rw[hgp] at HLe hw4
 rw[hw3,hw2,hw1] at HLe hw4
 have HW4:=zqh hw4
 have hmm:=@run_makeMap Tryz.prog
 rw[hgp]
 clear h hgp hw1 hw2 hw3 hw4 s1 s2 s3 hb1 hb2 hb0 k1 k2 k3 hb4
 go_enter Tryz.func25,Tryz.ntmps25
 go_wp2_with fail
 refine HLe.out.mono ?_
 rintro e w5 ⟨rfl,rfl⟩
 go_wp2_with fail
 go_ret
 have hB:=HB4.out
 rw[HP.out] at hB
 refine ⟨_,?_,by rw[HW4.out] at hB;exact hB⟩
 simp[qV]
end

section
open Go.RowKit
theorem zqz {ns:List Nd} (hf:zaA ns) {j:Nat} (hj:j<ns.length):zdI (ns.take j) (zaQ ns j)=ns.take (j+1):=by
 have hl:(ns.take j).length=j:=by rw[jR];omega
 have hr:=(hf.1 j hj).1
 unfold zdI
 rw[hl,if_pos hr,if_neg ?_,zjI hj,qW hj]
 intro hlt
 have hr2:(zaQ ns j).right (ns.take j).length=true:=by rw[hl];exact hr
 have h1:=zkF hr2 (by rw[hl];exact hlt)
 have h2:∀k,k<j->zaQ (ns.take j) k=zaQ ns k:=fun k hk=>by
  unfold zaQ
  rw[jV hk]
 rw[h2 _ hlt] at h1
 have:=hf.2 _ _ (by omega) hj h1
 omega
theorem zaA.pre {ns m:List Nd} (h:zaA (ns++m)):zaA ns:=by
 have he:∀j,j<ns.length->zaQ (ns++m) j=zaQ ns j:=fun j hj=>by unfold zaQ;rw[jP hj]
 have hl:∀j,j<ns.length->j<(ns++m).length:=fun j hj=>by rw[qF];omega
 refine ⟨fun j hj=>?_,fun i j hi hj e=>h.2 i j (hl i hi) (hl j hj) (by rw[he i hi,he j hj];exact e)⟩
 have:=h.1 j (hl j hj)
 rwa [he j hj] at this
theorem zc0 {w0 w w':World} {G:Nat->Prop} (hb:Below w0.heap.size w0 w) (ho:OffF G w w') (hG:∀b,G b->w0.heap.size<=b):Below w0.heap.size w0 w' :=
 ⟨ho.os.trans hb.os,ho.tape.trans hb.tape,ho.output.trans hb.output,qH hb.size ho.size,fun b hlt=>(ho.block b (qM hlt hb.size) (fun q=>by have:=hG b q;omega)).trans (hb.block b hlt)⟩
theorem zhR (w:World) (g b:Nat) (u v:Value) (h:b≠g):((w.setCell ⟨g,0,none⟩ u).setCell ⟨g,1,none⟩ v).heap[b]?=w.heap[b]?:=(heap_setCell_other _ _ b _ h).trans (heap_setCell_other _ _ b _ h)
theorem zkn {w:World} {gp g2:Nat} {ns ns':List Nd} {F G:Nat->Prop} {m m2:Option Nat} {v v2:Value} (h:AT w (.pointer (some ⟨gp,0,none⟩)) ns' F gp m v) (h2:AT w (.pointer (some ⟨g2,0,none⟩)) ns G g2 m2 v2) (hG:∀b,G b->b≠gp) :
  AT ((w.setCell ⟨gp,0,none⟩ v2).setCell ⟨gp,1,none⟩ (.map m2)) (.pointer (some ⟨gp,0,none⟩)) ns (fun b=>b=gp\/m2=some b\/v2.ownBlock=some b) gp m2 v2:=by
 have h3:AT ((w.setCell ⟨gp,0,none⟩ v2).setCell ⟨gp,1,none⟩ (.map m2)) (.pointer (some ⟨g2,0,none⟩)) ns G g2 m2 v2:=h2.keep (fun b q=>zhR w gp b _ _ (hG b q))
 exact ⟨rfl,(At.set (At.set h.box 0 v2) 1 (.map m2):At _ gp 69 _),h3.row,h3.ids,h3.fine,h3.max,⟨fun e=>hG gp ((h2.own gp).2 (Or.inr (Or.inl e))) rfl,fun e=>hG gp ((h2.own gp).2 (Or.inr (Or.inr e))) rfl,h3.apart.2.2⟩,fun b=>Iff.rfl⟩
def zqA (p:LP) (w:World) (ns:List Nd) (F:Nat->Prop) (e:Ending) (w':World):Prop:=e=.returned (.tuple #[])/\∃F',AA w' p.a ns F'/\(∀b,F' b->F b\/w.heap.size<=b)/\OffF F w w'
section
variable {p:LP} {w:World} {ns m:List Nd} {F:Nat->Prop} {many:Bool}
theorem zvn (h:LW p w (ns++m) F many) (hbf:p.before=ns.length):Calls Tryz.prog 60 #[.pointer (some ⟨p.gw,0,none⟩)] w (zqA p w ns F):=by
 have hfw:=h.few
 rw[qF] at hfw
 obtain ⟨gp,hgp⟩:=zar.ptr h.ar
 have HW:=zqh h
 have HP:=zqh hgp
 have HLen:Hid (∀q:Nat,Calls Tryz.prog 9 #[.pointer (some ⟨gp,0,none⟩)] (w.drewN q) fun e w'=>e=.returned (.int .i64 ((ns.length:Int)+m.length))/\∃k,w'=w.drewN k):=zqh (fun q=>by
  have:=zar.len (h.ar.drewN q)
  rw[hgp] at this
  refine this.mono (fun e w' z=>⟨?_,q,z.2⟩)
  rw[z.1,qF]
  simp)
 obtain ⟨c0,_,_,_,_,_,c6,_⟩:=h.cells
 rw[hgp] at c0
 rw[hbf] at c6
 have HFi:=zqh h.fine.pre
 have hI64:((ns.length:Int)+m.length)<=20000:=by omega
 clear h hgp
 go_enter Tryz.func60,Tryz.ntmps60
 go_wp2_with fail
 by_cases hm:m.length=0
 ·have hm0:m=[]:=qU hm
  have hz:(((ns.length:Int)+m.length)==(ns.length:Int))=true:=by rw[hm];simp
  have hz2:((ns.length:Int)+m.length)=(ns.length:Int):=by omega
  have hz3:decide (((ns.length:Int)+m.length)=(ns.length:Int))=true:=qD hz2
  have HM:=zqh hm0
  clear hm hm0
  go_quiet (exact HLen.out _)
  go_wp2_with fail
  go_end0
  refine ⟨rfl,F,?_,fun b q=>Or.inl q,OffF.of (zbc (qT _ _) _)⟩
  have:=HW.out.ar
  rw[HM.out,jA] at this
  exact this.drewN _
 ·have hz:(((ns.length:Int)+m.length)==(ns.length:Int))=false:=(zab (by omega)).1
  have hz2:¬((ns.length:Int)+m.length)=(ns.length:Int):=by omega
  have hz3:decide (((ns.length:Int)+m.length)=(ns.length:Int))=false:=qE hz2
  clear hm
  go_quiet (exact HLen.out _)
  obtain ⟨wd,hwd⟩:∃wd,wd=w.drewN nq:=⟨_,rfl⟩
  have HBd:Hid (Below w.heap.size w wd):=zqh (by rw[hwd];exact zbc (qT _ _) _)
  have HWd:Hid (wd.heap=w.heap):=zqh (by rw[hwd];rfl)
  have d0:wd.cell? ⟨p.gw,0,none⟩=some (.pointer (some ⟨gp,0,none⟩)):=by rw[hwd];exact c0
  have d6:wd.cell? ⟨p.gw,6,none⟩=some (.int .i64 (ns.length:Int)):=by rw[hwd];exact c6
  rw[<-hwd]
  clear c0 c6 hwd hz hz2 hz3 HLen
  have HWL:=zqh (HW.out.next HBd.out)
  go_wp2_with fail
  refine (zuL wd).mono ?_
  rintro e w1 ⟨a2,G0,rfl,hA0,hG0,hb1⟩
  obtain ⟨g2,rfl⟩:=zar.ptr hA0
  have HA0:=zqh hA0
  have HG0:=zqh hG0
  have HB1:=zqh hb1
  have e6:w1.cell? ⟨p.gw,6,none⟩=some (.int .i64 (ns.length:Int)):=by
   have:=(HWL.out.next hb1).cells.2.2.2.2.2.2.1
   rwa [hbf] at this
  clear hA0 hG0 hb1 d0 d6
  go_wp2_with fail
  go_loopw [21] (fun v wr=>∃(j:Nat) (G:Nat->Prop),j<=ns.length/\v=.int .i64 j/\Hid (AA wr (.pointer (some ⟨g2,0,none⟩)) (ns.take j) G)/\Hid (∀b,G b->wd.heap.size<=b)/\Hid (Below wd.heap.size wd wr)) (fun v _=>ns.length-(intOf v).toNat)
  case atStart=>exact ⟨0,G0,qK _,rfl,zqh (by rw[List.take_zero];exact HA0.out),HG0,HB1⟩
  case round =>
   clear HA0 HG0 HB1 e6
   obtain ⟨j,G,hj,rfl,HA,HG,HB⟩:=hrel
   have HLr:=zqh (HWL.out.next HB.out)
   have c0:=HLr.out.cells.1
   rw[HP.out] at c0
   by_cases hlt:j<ns.length
   ·have h1:(0:Int)<=(j:Int):=by omega
    have h2:(j:Int)<(ns.length:Int):=by omega
    have hji:zac (ns++m) (j:Int):=by unfold zac;rw[qF];omega
    have HN:=zqh (zar.node (j:Int) HLr.out.ar (by unfold I64;omega))
    rw[show decide ((0:Int)<=(j:Int)/\(j:Int)<((ns++m).length:Int))=true from qD hji,HP.out] at HN
    have HJi:=zqh hji
    clear hji
    go_wp2_with fail
    refine HN.out.mono ?_
    rintro e w3 ⟨u,rfl,hu,hb3,_⟩
    have hu:=hu HJi.out
    have HU:Hid (u=zaQ ns j):=zqh (by
     rw[hu]
     unfold zaQ
     rw[show ((j:Nat):Int).toNat=j from rfl,jP hlt])
    have HXb:=zqh (zbq w3 u)
    have hone:=Nd.one u
    have hbb:=hb3.trans ((zaN w3 u).mono hb3.size)
    have HBb:Hid (Below wd.heap.size wd (zaD w3 u)):=zqh (HB.out.trans (hbb.mono HB.out.size))
    have HAb:=zqh (HA.out.next hbb)
    have hfit:zbQ u:=by rw[HU.out];exact (HFi.out.1 j hlt).2
    have HPu:=zqh (zar.put u HAb.out hfit (by rw[jR];omega))
    have HTk:Hid (zdI (ns.take j) u=ns.take (j+1)):=zqh (by rw[HU.out];exact zqz HFi.out hlt)
    rw[HTk.out] at HPu
    clear hu hb3 hbb hfit HN
    go_wp2_with (first
    |(with_reducible show wpList _ _ _ (⟨none,.store 61 _ _,_,_,_,_⟩::_) _ _
      refine qN rfl 61 _ _ rfl w3.heap.size u.cs.toArray rfl rfl 61 Nd.zero.cs.toArray (At.new _ _ _) (by kernel_rfl) rfl hone ?_
      first | change wpList _ _ _ _ _ (zaD w3 u) | change Exit.then _ _ _ _ (zaD w3 u))
    |(with_reducible show wpList _ _ _ (⟨_,.load 61 _,_,_,_,_⟩::_) _ _
      refine zaa (by rfl) 61 _ rfl w3.heap.size rfl 61 u.cs.toArray (0,0) _ HXb.out Tryz.underlying61 rfl (by rw[qO,Nd.cs_length];kernel_rfl) ?_)
    | fail)
    refine HPu.out.mono ?_
    rintro e w5 ⟨G5,rfl,hA5,hG5,ho5⟩
    have HA5:=zqh hA5
    have HG5:=zqh hG5
    have HO5:=zqh ho5
    clear hA5 hG5 ho5
    go_wp2_with fail
    refine ⟨⟨j+1,G5,by omega,by go_num,HA5,zqh (fun b q=>?_),zqh (zc0 HBb.out HO5.out HG.out)⟩,by simp[intOf];omega⟩
    rcases HG5.out b q with q | q
    ·exact HG.out b q
    ·exact qH HBb.out.size q
   ·obtain rfl:j=ns.length:=by omega
    have hAn:=HA.out
    rw[qQ] at hAn
    obtain ⟨g2',m2,v2,hT2⟩:=hAn
    have hp2:=hT2.ptr
    injection hp2 with hp2
    injection hp2 with hp2
    injection hp2 with hp2 _ _
    subst hp2
    obtain ⟨g',m',v',hT⟩:=HLr.out.ar
    have hp:=HP.out.symm.trans hT.ptr
    injection hp with hp
    injection hp with hp
    injection hp with hp _ _
    subst hp
    rw[HP.out] at hT
    obtain ⟨A2,cc2,rfl⟩:=hT2.row.len
    have HT2:=zqh hT2
    have HT:=zqh hT
    have b0:=hT2.box.cell 0
    have b1:=hT2.box.cell 1
    have HNg:Hid (∀b,G b->b≠gp):=zqh (fun b q e=>by
     have h3:=HG.out b q
     have h4:=HW.out.low gp (Or.inl (by
      obtain ⟨g9,m9,v9,h9⟩:=HW.out.ar
      have e9:=HP.out.symm.trans h9.ptr
      injection e9 with e9
      injection e9 with e9
      injection e9 with e9 _ _
      exact (h9.own gp).2 (Or.inl e9)))
     rw[HWd.out] at h3
     omega)
    have HAc:Hid (At wr g2 69 #[.slice A2 ns.length cc2,.map m2]):=zqh hT2.box
    clear hT2 hT HA
    go_wp2_with fail
    go_still_tail 8,(by kernel_rfl)
    change wpList _ _ _ _ _ wr.drew
    obtain ⟨wq,hwq⟩:∃wq,wq=wr.drew:=⟨_,rfl⟩
    have HTq:Hid (AT wq (.pointer (some ⟨gp,0,none⟩)) (ns++m) F gp m' v'):=zqh (HT.out.keep (fun b q=>by rw[hwq];rfl))
    have HT2q:Hid (AT wq (.pointer (some ⟨g2,0,none⟩)) ns G g2 m2 (.slice A2 ns.length cc2)):=zqh (HT2.out.keep (fun b q=>by rw[hwq];rfl))
    have HBq:Hid (Below wd.heap.size wd wq):=zqh (by rw[hwq];exact HB.out.trans ((yF (qT _ wr)).mono HB.out.size))
    rw[<-hwq]
    clear hwq b0 b1 c0
    have q0:wq.cell? ⟨gp,0,none⟩=some v':=HTq.out.box.cell 0
    have q1:wq.cell? ⟨gp,1,none⟩=some (.map m'):=HTq.out.box.cell 1
    have f0:wq.frozen? ⟨gp,0,none⟩=false:=HTq.out.box.free 0
    have f1:wq.frozen? ⟨gp,1,none⟩=false:=HTq.out.box.free 1
    have q1':(wq.setCell ⟨gp,0,none⟩ (.slice A2 ns.length cc2)).cell? ⟨gp,1,none⟩=some (.map m'):=(At.set HTq.out.box 0 (.slice A2 ns.length cc2)).cell 1
    have f1':(wq.setCell ⟨gp,0,none⟩ (.slice A2 ns.length cc2)).frozen? ⟨gp,1,none⟩=false:=(At.set HTq.out.box 0 (.slice A2 ns.length cc2)).free 1
    go_wp2_with fail
    go_end0
    have hmv:=zkn HTq.out HT2q.out HNg.out
    refine ⟨rfl,_,by rw[HP.out];exact ⟨_,_,_,hmv⟩,fun b q=>?_,?_⟩
    ·rcases q with rfl | q | q
     ·exact Or.inl ((HT.out.own b).2 (Or.inl rfl))
     ·have:=HG.out b ((HT2.out.own b).2 (Or.inr (Or.inl q)))
      rw[HWd.out] at this
      exact Or.inr this
     ·have:=HG.out b ((HT2.out.own b).2 (Or.inr (Or.inr q)))
      rw[HWd.out] at this
      exact Or.inr this
    ·have hb:=HBd.out.trans (HBq.out.mono HBd.out.size)
     refine ⟨hb.os,hb.tape,hb.output,by rw[jC,jC];exact hb.size,fun b hlt hn=>?_⟩
     rw[zhR _ _ _ _ _ (fun e=>hn ((HT.out.own b).2 (Or.inl e)))]
     exact hb.block b hlt
end
end
end Go.Proofs.YtdmodhnhldbpnaaGreat
