/- Joined: LwNull, LwMembers. -/
import Derived.Test.YtdmodhnhldbpnaaGreatMbk
import Derived.Test.YtdmodhnhldbpnaaGreatNormNullP
import Derived.Test.YtdmodhnhldbpnaaGreatMam
import Derived.Test.YtdmodhnhldbpnaaGreatAid
/- walk.null of package linear. -/
set_option linter.unusedSimpArgs false
set_option linter.unusedVariables false
set_option maxHeartbeats 16000000
set_option maxRecDepth 100000
namespace Go.Proofs.YtdmodhnhldbpnaaGreat
section
open Go.RowKit
section
variable {p:LP} {w w':World} {ns:List Nd} {F:Nat->Prop} {many:Bool}
theorem LW.off1 (h:LW p w ns F many) {m:Nat} (hg:w.grownBy w' (some m)) (hm:XB p F m):OffF (XB p F) w w':=(OffF.of (qT _ w)).grown hg (fun b e=>by injection e with e;rw[<-e];exact Or.inl hm)
theorem zki.same {X:Nat->Prop} {m:Nat} {R:Int->Fm->Prop} (h:zki X w m ns many R) (hb:w'.heap[m]?=w.heap[m]?) (ho:OffF X w w'):zki X w' m ns many R:=by
 have:=h.up (X':=X) (R':=R) hb ho (fun b q=>Or.inl q) [] (fun x f _ _ q=>q)
 rwa [jA] at this
structure zdY (p:LP) (w:World) (ns:List Nd) (F:Nat->Prop) (many:Bool) (w':World):Prop where
 g:za8 p w ns F many w' ns F many
 n:OffF (fun b=>b=p.mn) w w'
theorem zdY.lw {p:LP} {w w':World} {ns:List Nd} {F:Nat->Prop} {many:Bool} (h:zdY p w ns F many w'):LW p w' ns F many:=h.g.lw
theorem zdY.off {p:LP} {w w':World} {ns:List Nd} {F:Nat->Prop} {many:Bool} (h:zdY p w ns F many w'):OffF (XB p F) w w':=h.g.off
theorem zdY.trans {p:LP} {w w' w2:World} {ns:List Nd} {F:Nat->Prop} {many:Bool} (h:zdY p w ns F many w') (h2:zdY p w' ns F many w2):zdY p w ns F many w2:=⟨h.g.trans h2.g,h.n.off h2.n (fun b q=>Or.inl q)⟩
theorem zdY.next {p:LP} {w w' w2:World} {ns:List Nd} {F:Nat->Prop} {many:Bool} (h:zdY p w ns F many w') (hb:Below w'.heap.size w' w2):zdY p w ns F many w2:=⟨h.g.next hb,h.n.then hb⟩
theorem zdY.of {p:LP} {w w':World} {ns:List Nd} {F:Nat->Prop} {many:Bool} (h:LW p w ns F many) (hb:Below w.heap.size w w'):zdY p w ns F many w':=⟨za8.of h hb,OffF.of hb⟩
theorem LW.storeNull (h:LW p w ns F many) {x:Int} (hx:zac ns x) {v:Bool} (hv:v=zan ns p.bt x):∃w',(Instr.mapUpdate 99 (.map (some p.mn)) (.int .i64 x) (.agg #[.bool v])).run Tryz.prog w=.ok () w'/\zdY p w ns F many w':=by
 obtain ⟨s,k1,k2,k3⟩:=h.nu
 have hmx:=h.few
 have hxI:I64 x:=by unfold zac at hx;unfold I64;omega
 have hsl:=zbd (n:=ns.length) k2 k3
 obtain ⟨w',r1,r2,r3⟩:=k1.storeN hxI hv (by omega)
 have ho:=h.off1 r3 (Or.inr (Or.inr (Or.inr (Or.inr rfl))))
 obtain ⟨d1,d2,d3,d4,d5,d6⟩:=h.d
 obtain ⟨l1,l2,l3,l4⟩:=h.lts
 have hb:∀b,b<w.heap.size->b≠p.mn->w'.heap[b]?=w.heap[b]?:=fun b h1 h2=>r3.block b h1 (fun e=>by injection e with e;exact h2 e)
 refine ⟨w',r1,⟨⟨⟨[],(jA _).symm⟩,⟨h.ar.keep (fun b q=>hb b (h.ar.low b q) (fun e=>h.out.2.2.2 (by rw[<-e];exact q))),(hb _ l1 d3).trans h.box,h.fo.same (hb _ l2 d5) ho.xy,h.le.same (hb _ l3 d6) ho.xy,⟨_,r2,?_,?_⟩,h.d,h.out,h.b8,fun b q=>qM (h.ylow b q) ho.size⟩,fun b q=>Or.inl q,ho,id⟩,(OffF.of (qT _ w)).grown r3 (fun b e=>by injection e with e;exact Or.inl e.symm)⟩⟩
 ·by_cases e:x∈s
  ·rw[if_pos e];exact k2
  ·rw[if_neg e];exact List.nodup_cons.2 ⟨e,k2⟩
 ·intro z hz
  by_cases e:x∈s
  ·rw[if_pos e] at hz;exact k3 z hz
  ·rw[if_neg e] at hz
   rcases List.mem_cons.1 hz with rfl | hz
   ·exact hx
   ·exact k3 z hz
theorem LW.notX (h:LW p w ns F many) {b:Nat} (hb:w.heap.size<=b):¬XB p F b:=fun q=>by have:=h.low b q;omega
end
def zfu (p:LP) (w:World) (ns:List Nd) (F:Nat->Prop) (many:Bool) (id:Int) (e:Ending) (w':World):Prop:=e=.returned (.bool (zan ns p.bt id))/\zdY p w ns F many w'
def zkl (p:LP) (n:Nat):Prop:=∀(id:Int) {w:World} {ns:List Nd} {F:Nat->Prop} {many:Bool},id.toNat<=n->LW p w ns F many->zac ns id->Calls Tryz.prog 39 #[.pointer (some ⟨p.gw,0,none⟩),.int .i64 id] w (zfu p w ns F many id)
section
variable {p:LP}
theorem zon (n:Nat) (hIH:Hid (∀k,k+1=n->zkl p k)):zkl p n:=by
 intro id w ns F many hn h hin
 have hmx:=h.few
 have hid:I64 id:=by unfold zac at hin;unfold I64;omega
 have HW:=zqh h
 have HI:=zqh hin
 have HNn:=zqh hn
 have HId:=zqh hid
 obtain ⟨gp,hgp⟩:=zar.ptr h.ar
 have HP:=zqh hgp
 obtain ⟨s,k1,k2,k3⟩:=h.nu
 have hlk:=k1.lookN hid
 obtain ⟨c0,c1,c2,c3,c4,c5,c6,c7⟩:=h.cells
 have hdx:decide (0<=id/\id<(ns.length:Int))=true:=qD hin
 by_cases hs:id∈s
 ·rw[qD hs,jS] at hlk
  have HB2:Hid (Below w.heap.size w (w.alloc (.cells #[.bool (zan ns p.bt id)] 107))):=zqh (zqb)
  clear h hin hn hid hgp k1 k2 k3 hs hdx
  go_enter Tryz.func39,Tryz.ntmps39
  go_wp2_with fail
  go_ret
  exact ⟨rfl,zdY.of HW.out HB2.out⟩
 rw[qE hs,yC] at hlk
 obtain ⟨w2,hw2⟩:∃w2,w2=w.alloc (.cells #[.bool false] 107):=⟨_,rfl⟩
 have HB2:Hid (Below w.heap.size w w2):=zqh (by rw[hw2];exact zqb)
 have HW2:=zqh (h.next HB2.out)
 have HN:=zar.node id HW2.out.ar hid
 rw[hdx,hgp] at HN
 have HN:=zqh HN
 have HWe:=zqh hw2
 rw[hw2] at HN
 have HFi:=zqh h.fine
 have HIc:Hid (∀(c:Int) (w3:World),c<id->zac ns c->LW p w3 ns F many->Calls Tryz.prog 39 #[.pointer (some ⟨p.gw,0,none⟩),.int .i64 c] w3 (zfu p w3 ns F many c)):=zqh (by
  intro c w3 hc hci hW3
  have h1:=HI.out
  have h2:=hci
  unfold zac at h1 h2
  obtain ⟨k,hk⟩:∃k,n=k+1:=⟨n-1,by have:=HNn.out;omega⟩
  exact hIH.out k hk.symm c (by have:=HNn.out;omega) hW3 hci)
 rw[hgp] at c0
 have c0a:(w.alloc (.cells #[.bool false] 107)).cell? ⟨p.gw,0,none⟩=some (.pointer (some ⟨gp,0,none⟩)):=by
  have:=(HW2.out).cells.1
  rw[hw2,hgp] at this;exact this
 clear h hin hn hid hgp k1 k2 k3 hs hdx hw2 c0 c1 c2 c3 c4 c6 c7
 go_enter Tryz.func39,Tryz.ntmps39
 go_wp2_with fail
 refine HN.out.mono ?_
 rw[<-HWe.out]
 rintro e w3 ⟨u,rfl,hu,hb3,_⟩
 have hu:=hu HI.out
 have HU:=zqh hu
 have HK:Hid (kd ns id=u.kind/\ka ns id=u.a/\kb ns id=u.b):=zqh ⟨by unfold kd;rw[<-hu],by unfold ka;rw[<-hu],by unfold kb;rw[<-hu]⟩
 have HXb:=zqh (zbq w3 u)
 have HBb:=zqh (HB2.out.trans ((hb3.trans ((zaN w3 u).mono hb3.size)).mono HB2.out.size))
 have HG:=zqh (zdY.of HW.out HBb.out)
 have HNx:Hid (¬XB p F w3.heap.size):=zqh (HW2.out.notX hb3.size)
 have hone:=Nd.one u
 have ck:=(Nd.cells HXb.out).1
 have cA:=(Nd.cells HXb.out).2.2.2.2.2.1
 have cB:=(Nd.cells HXb.out).2.2.2.2.2.2.1
 clear hu hb3 hlk c0a c5
 by_cases hk3:u.kind=3
 ·have HKd:=zqh hk3
  rw[hk3] at ck
  clear hk3
  have HV:Hid (zan ns p.bt id=(zan ns p.bt u.a&&zan ns p.bt u.b)):=zqh (by rw[<-HK.out.2.1,<-HK.out.2.2];exact zqU HFi.out p.bt HI.out (by rw[HK.out.1];exact HKd.out))
  obtain ⟨⟨ia,la⟩,ib,lb⟩:=zaK HFi.out HI.out (by rw[HK.out.1];have:=HKd.out;omega)
  rw[HK.out.2.1] at ia la
  rw[HK.out.2.2] at ib lb
  have HIa:=zqh ia
  have HIb:=zqh ib
  have HLa:=zqh la
  have HLb:=zqh lb
  clear ia la ib lb
  go_wp2_with (first
   |(with_reducible show wpList _ _ _ (⟨none,.store 61 _ _,_,_,_,_⟩::_) _ _
     refine qN rfl 61 _ _ rfl w3.heap.size u.cs.toArray rfl rfl 61 Nd.zero.cs.toArray (At.new _ _ _) (by kernel_rfl) rfl hone ?_
     first | change wpList _ _ _ _ _ (zaD w3 u) | change Exit.then _ _ _ _ (zaD w3 u))
   | fail)
  refine (HIc.out u.a _ HLa.out HIa.out HG.out.lw).mono ?_
  rintro e w4 ⟨rfl,gw4⟩
  have HGw4:=zqh (HG.out.trans gw4)
  have HUw4:Hid (At w4 w3.heap.size 61 u.cs.toArray):=zqh ((gw4.off.block _ HXb.out.lt HNx.out).trans HXb.out)
  clear gw4
  obtain ⟨r,hr⟩:∃r,zan ns p.bt u.a=r:=⟨_,rfl⟩
  rw[hr] at HV
  rw[hr]
  clear hr cA cB ck
  have cB:=(Nd.cells HUw4.out).2.2.2.2.2.2.1
  cases r
  ·obtain ⟨w9,hr9,hg9⟩:=HGw4.out.lw.storeNull HI.out (v:=false) (by rw[HV.out];rfl)
   have HG9:=zqh (HGw4.out.trans hg9)
   have c5:=HGw4.out.lw.cells.2.2.2.2.2.1
   clear hg9
   go_wp2_with fail
   go_ret
   exact ⟨by rw[show zan ns p.bt id=false by rw[HV.out];rfl];rfl,HG9.out⟩
  ·go_wp2_with fail
   refine (HIc.out u.b _ HLb.out HIb.out HGw4.out.lw).mono ?_
   rintro e w5 ⟨rfl,gw5⟩
   have HGw5:=zqh (HGw4.out.trans gw5)
   have HUw5:Hid (At w5 w3.heap.size 61 u.cs.toArray):=zqh ((gw5.off.block _ HUw4.out.lt HNx.out).trans HUw4.out)
   clear gw5
   obtain ⟨w9,hr9,hg9⟩:=HGw5.out.lw.storeNull HI.out (v:=zan ns p.bt u.b) (by rw[HV.out];rfl)
   have HG9:=zqh (HGw5.out.trans hg9)
   have c5:=HGw5.out.lw.cells.2.2.2.2.2.1
   clear hg9
   go_wp2_with fail
   go_ret
   exact ⟨by rw[show zan ns p.bt id=zan ns p.bt u.b by rw[HV.out];rfl];rfl,HG9.out⟩
 have hb3:=(zab hk3).1
 clear hk3
 by_cases hk5:u.kind=5
 ·have HKd:=zqh hk5
  rw[hk5] at ck
  clear hk5 hb3
  have HV:Hid (zan ns p.bt id=(zan ns p.bt u.a&&zan ns p.bt u.b)):=zqh (by rw[<-HK.out.2.1,<-HK.out.2.2];exact zqW HFi.out p.bt HI.out (by rw[HK.out.1];exact HKd.out))
  obtain ⟨⟨ia,la⟩,ib,lb⟩:=zaK HFi.out HI.out (by rw[HK.out.1];have:=HKd.out;omega)
  rw[HK.out.2.1] at ia la
  rw[HK.out.2.2] at ib lb
  have HIa:=zqh ia
  have HIb:=zqh ib
  have HLa:=zqh la
  have HLb:=zqh lb
  clear ia la ib lb
  go_wp2_with (first
   |(with_reducible show wpList _ _ _ (⟨none,.store 61 _ _,_,_,_,_⟩::_) _ _
     refine qN rfl 61 _ _ rfl w3.heap.size u.cs.toArray rfl rfl 61 Nd.zero.cs.toArray (At.new _ _ _) (by kernel_rfl) rfl hone ?_
     first | change wpList _ _ _ _ _ (zaD w3 u) | change Exit.then _ _ _ _ (zaD w3 u))
   | fail)
  refine (HIc.out u.a _ HLa.out HIa.out HG.out.lw).mono ?_
  rintro e w4 ⟨rfl,gw4⟩
  have HGw4:=zqh (HG.out.trans gw4)
  have HUw4:Hid (At w4 w3.heap.size 61 u.cs.toArray):=zqh ((gw4.off.block _ HXb.out.lt HNx.out).trans HXb.out)
  clear gw4
  obtain ⟨r,hr⟩:∃r,zan ns p.bt u.a=r:=⟨_,rfl⟩
  rw[hr] at HV
  rw[hr]
  clear hr cA cB ck
  have cB:=(Nd.cells HUw4.out).2.2.2.2.2.2.1
  cases r
  ·obtain ⟨w9,hr9,hg9⟩:=HGw4.out.lw.storeNull HI.out (v:=false) (by rw[HV.out];rfl)
   have HG9:=zqh (HGw4.out.trans hg9)
   have c5:=HGw4.out.lw.cells.2.2.2.2.2.1
   clear hg9
   go_wp2_with fail
   go_ret
   exact ⟨by rw[show zan ns p.bt id=false by rw[HV.out];rfl];rfl,HG9.out⟩
  ·go_wp2_with fail
   refine (HIc.out u.b _ HLb.out HIb.out HGw4.out.lw).mono ?_
   rintro e w5 ⟨rfl,gw5⟩
   have HGw5:=zqh (HGw4.out.trans gw5)
   have HUw5:Hid (At w5 w3.heap.size 61 u.cs.toArray):=zqh ((gw5.off.block _ HUw4.out.lt HNx.out).trans HUw4.out)
   clear gw5
   obtain ⟨w9,hr9,hg9⟩:=HGw5.out.lw.storeNull HI.out (v:=zan ns p.bt u.b) (by rw[HV.out];rfl)
   have HG9:=zqh (HGw5.out.trans hg9)
   have c5:=HGw5.out.lw.cells.2.2.2.2.2.1
   clear hg9
   go_wp2_with fail
   go_ret
   exact ⟨by rw[show zan ns p.bt id=zan ns p.bt u.b by rw[HV.out];rfl];rfl,HG9.out⟩
 have hb5:=(zab hk5).1
 clear hk5
 by_cases hk4:u.kind=4
 ·have HKd:=zqh hk4
  rw[hk4] at ck
  clear hk4 hb3 hb5
  have HV:Hid (zan ns p.bt id=(zan ns p.bt u.a||zan ns p.bt u.b)):=zqh (by rw[<-HK.out.2.1,<-HK.out.2.2];exact zqV HFi.out p.bt HI.out (by rw[HK.out.1];exact HKd.out))
  obtain ⟨⟨ia,la⟩,ib,lb⟩:=zaK HFi.out HI.out (by rw[HK.out.1];have:=HKd.out;omega)
  rw[HK.out.2.1] at ia la
  rw[HK.out.2.2] at ib lb
  have HIa:=zqh ia
  have HIb:=zqh ib
  have HLa:=zqh la
  have HLb:=zqh lb
  clear ia la ib lb
  go_wp2_with (first
   |(with_reducible show wpList _ _ _ (⟨none,.store 61 _ _,_,_,_,_⟩::_) _ _
     refine qN rfl 61 _ _ rfl w3.heap.size u.cs.toArray rfl rfl 61 Nd.zero.cs.toArray (At.new _ _ _) (by kernel_rfl) rfl hone ?_
     first | change wpList _ _ _ _ _ (zaD w3 u) | change Exit.then _ _ _ _ (zaD w3 u))
   | fail)
  refine (HIc.out u.a _ HLa.out HIa.out HG.out.lw).mono ?_
  rintro e w4 ⟨rfl,gw4⟩
  have HGw4:=zqh (HG.out.trans gw4)
  have HUw4:Hid (At w4 w3.heap.size 61 u.cs.toArray):=zqh ((gw4.off.block _ HXb.out.lt HNx.out).trans HXb.out)
  clear gw4
  obtain ⟨r,hr⟩:∃r,zan ns p.bt u.a=r:=⟨_,rfl⟩
  rw[hr] at HV
  rw[hr]
  clear hr cA cB ck
  have cB:=(Nd.cells HUw4.out).2.2.2.2.2.2.1
  cases r
  ·go_wp2_with fail
   refine (HIc.out u.b _ HLb.out HIb.out HGw4.out.lw).mono ?_
   rintro e w5 ⟨rfl,gw5⟩
   have HGw5:=zqh (HGw4.out.trans gw5)
   have HUw5:Hid (At w5 w3.heap.size 61 u.cs.toArray):=zqh ((gw5.off.block _ HUw4.out.lt HNx.out).trans HUw4.out)
   clear gw5
   obtain ⟨w9,hr9,hg9⟩:=HGw5.out.lw.storeNull HI.out (v:=zan ns p.bt u.b) (by rw[HV.out];rfl)
   have HG9:=zqh (HGw5.out.trans hg9)
   have c5:=HGw5.out.lw.cells.2.2.2.2.2.1
   clear hg9
   go_wp2_with fail
   go_ret
   exact ⟨by rw[show zan ns p.bt id=zan ns p.bt u.b by rw[HV.out];rfl];rfl,HG9.out⟩
  ·obtain ⟨w9,hr9,hg9⟩:=HGw4.out.lw.storeNull HI.out (v:=true) (by rw[HV.out];rfl)
   have HG9:=zqh (HGw4.out.trans hg9)
   have c5:=HGw4.out.lw.cells.2.2.2.2.2.1
   clear hg9
   go_wp2_with fail
   go_ret
   exact ⟨by rw[show zan ns p.bt id=true by rw[HV.out];rfl];rfl,HG9.out⟩
 have hb4:=(zab hk4).1
 clear hk4
 by_cases hk6:u.kind=6
 ·have HKd:=zqh hk6
  rw[hk6] at ck
  clear hk6 hb3 hb5 hb4
  have HV:Hid (zan ns p.bt id=!zan ns p.bt u.a):=zqh (by rw[<-HK.out.2.1];exact zqX HFi.out p.bt HI.out (by rw[HK.out.1];exact HKd.out))
  obtain ⟨ia,la⟩:=zbT HFi.out HI.out (by rw[HK.out.1];have:=HKd.out;omega)
  rw[HK.out.2.1] at ia la
  have HIa:=zqh ia
  have HLa:=zqh la
  clear ia la
  go_wp2_with (first
   |(with_reducible show wpList _ _ _ (⟨none,.store 61 _ _,_,_,_,_⟩::_) _ _
     refine qN rfl 61 _ _ rfl w3.heap.size u.cs.toArray rfl rfl 61 Nd.zero.cs.toArray (At.new _ _ _) (by kernel_rfl) rfl hone ?_
     first | change wpList _ _ _ _ _ (zaD w3 u) | change Exit.then _ _ _ _ (zaD w3 u))
   | fail)
  refine (HIc.out u.a _ HLa.out HIa.out HG.out.lw).mono ?_
  rintro e w4 ⟨rfl,gw4⟩
  have HGw4:=zqh (HG.out.trans gw4)
  have HUw4:Hid (At w4 w3.heap.size 61 u.cs.toArray):=zqh ((gw4.off.block _ HXb.out.lt HNx.out).trans HXb.out)
  clear gw4
  obtain ⟨w9,hr9,hg9⟩:=HGw4.out.lw.storeNull HI.out (v:=!zan ns p.bt u.a) (by rw[HV.out])
  have HG9:=zqh (HGw4.out.trans hg9)
  have c5:=HGw4.out.lw.cells.2.2.2.2.2.1
  clear hg9
  go_wp2_with fail
  go_ret
  exact ⟨by rw[show zan ns p.bt id=!zan ns p.bt u.a by rw[HV.out]];rfl,HG9.out⟩
 have hb6:=(zab hk6).1
 clear hk6
 have HGd:=zqh (HG.out.next (yF (qT _ _)))
 have HNl:=zqh (zvj zar id p.bt (HGd.out.lw.ar) HId.out HGd.out.lw.b8.2)
 rw[HP.out] at HNl
 obtain ⟨c0,_,c2,_⟩:=HG.out.lw.cells
 rw[HP.out] at c0
 clear cA cB
 go_wp2_with (first
  |(with_reducible show wpList _ _ _ (⟨none,.store 61 _ _,_,_,_,_⟩::_) _ _
    refine qN rfl 61 _ _ rfl w3.heap.size u.cs.toArray rfl rfl 61 Nd.zero.cs.toArray (At.new _ _ _) (by kernel_rfl) rfl hone ?_
    first | change wpList _ _ _ _ _ (zaD w3 u) | change Exit.then _ _ _ _ (zaD w3 u))
  | fail)
 go_region_with (first
  |(go_at_call 67;(with_reducible refine (HNl.out).mono ?_);rintro e w4 ⟨rfl,hb4⟩
    have HB4:=zqh hb4
    clear hb4))
 all_goals
  obtain ⟨w9,hr9,hg9⟩:=(HGd.out.next HB4.out).lw.storeNull HI.out (v:=zan ns p.bt id) rfl
  have HG9:=zqh ((HGd.out.next HB4.out).trans hg9)
  have c5:=(HGd.out.next HB4.out).lw.cells.2.2.2.2.2.1
  clear hg9
  go_wp2_with fail
  go_ret
  exact ⟨rfl,HG9.out⟩
theorem zlk:∀n:Nat,zkl p n
 | 0=>zon 0 (zqh (fun k h=>absurd h (Nat.succ_ne_zero k)))
 | n+1=>zon (n+1) (zqh (fun k h=>(Nat.succ.inj h).symm▸zlk n))
theorem zre {w:World} {ns:List Nd} {F:Nat->Prop} {many:Bool} (h:LW p w ns F many) (id:Int) (hi:zac ns id):Calls Tryz.prog 39 #[.pointer (some ⟨p.gw,0,none⟩),.int .i64 id] w (zfu p w ns F many id):=zlk id.toNat id zqn h hi
theorem zvk {w:World} {ns:List Nd} {F:Nat->Prop} {many:Bool} (h:LW p w ns F many) (id:Int) (hi:zac ns id):Calls Tryz.prog 39 #[.pointer (some ⟨p.gw,0,none⟩),.int .i64 id] w (fun e w'=>e=.returned (.bool (zan ns p.bt id))/\za8 p w ns F many w' ns F many):=(zre h id hi).mono (fun e w' q=>⟨q.1,q.2.g⟩)
end
end

section
open Go.RowKit
theorem zbO.swap {ns:List Nd} {k:Int} {l s T fd:List Int} {x y:Int} (h:zbO ns k l s (T++[x,y]) fd):zbO ns k l s (T++[y,x]) fd:=by
 have hm:∀z,z∈T++[y,x]↔z∈T++[x,y]:=fun z=>by
  rw[yO,yO]
  simp only[kB,xK,or_false]
  constructor
  ·rintro (a | a | a)
   ·exact Or.inl a
   ·exact Or.inr (Or.inr a)
   ·exact Or.inr (Or.inl a)
  ·rintro (a | a | a)
   ·exact Or.inl a
   ·exact Or.inr (Or.inr a)
   ·exact Or.inr (Or.inl a)
 refine ⟨h.nd,h.sin,fun z hz=>h.tin z ((hm z).1 hz),h.fnd,h.ffr,h.leaf,fun x hx e=>?_,fun x hx=>?_,fun z hz=>h.snd z ?_⟩
 ·rw[hm,hm];exact h.node x hx e
 ·rw[hm];exact h.all x hx
 ·rw[<-hm];exact hz
theorem szq {w w':World} {n B:Nat} (h:w.heap.size=n) (hb:Below B w w'):n<=w'.heap.size:=h▸hb.size
theorem zsV (w:World) (x y:Int) (base:Nat) (hb:base<=w.heap.size):zas (w.alloc (.cells #[.int .i64 x,.int .i64 y] 3)) base (.slice (some ⟨w.heap.size,0,none⟩) 2 2) [x,y] :=
 ⟨rfl,.inr ⟨_,2,_,rfl,hb,At.new _ _ _,qL _,by unfold maxLen;omega,rfl,rfl⟩⟩
section
variable {p:LP} {w:World} {ns:List Nd} {F:Nat->Prop} {many:Bool}
theorem zef (k:Int) (hk:k=4\/k=5) (h:LW p w ns F many) (n:Nd) (hn:n.kind=k) (ha:zac ns n.a) (hb:zac ns n.b) :
  Calls Tryz.prog 95 #[.pointer (some ⟨p.gw,0,none⟩),.agg n.cs.toArray] w fun e w'=>∃v' ms,e=.returned v'/\zas w' w.heap.size v' ms/\ms.Nodup/\(∀y,y∈ms↔y∈mem ns k n.a\/y∈mem ns k n.b)/\Below w.heap.size w w':=by
 have hmx:=h.few
 have HW:=zqh h
 have HF:=zqh h.fine
 have HK:=zqh hk
 have HI:Hid (∀x∈[n.b,n.a],zac ns x):=zqh (fun x hx=>by
  rcases List.mem_cons.1 hx with rfl | hx
  ·exact hb
  ·rw[List.mem_singleton.1 hx];exact ha)
 obtain ⟨gp,hgp⟩:=zar.ptr h.ar
 have HP0:=zqh hgp
 have HKn:=zqh hn
 obtain ⟨wq,hwq⟩:∃wq,wq=w.alloc (.cells n.cs.toArray 61):=⟨_,rfl⟩
 have HQ:Hid (Below w.heap.size w wq):=zqh (by rw[hwq];exact zqb)
 have HNb:Hid (At wq w.heap.size 61 n.cs.toArray):=zqh (by rw[hwq];exact At.new _ _ _)
 obtain ⟨w1,hw1⟩:∃w1,w1=(wq.alloc (.map #[] 0)).alloc (.cells #[.int .i64 n.b,.int .i64 n.a] 3):=⟨_,rfl⟩
 have hqs:wq.heap.size=w.heap.size+1:=by rw[hwq];simp
 have HQs:=zqh hqs
 have HB2:Hid (Below (w.heap.size+1) wq w1):=zqh (by rw[hw1,<-hqs];exact (zqb).alloc (by simp) _)
 have HM2:Hid (zaT w1 (w.heap.size+1) 0 []):=zqh (by rw[hw1,<-hqs];exact (zaT.made wq).kept (yL _ _ _ (by simp)))
 have HR1:Hid (zas w1 (w.heap.size+1+1) (.slice (some ⟨w.heap.size+1+1,0,none⟩) 2 2) [n.b,n.a]):=zqh (by
  have:=zsV (wq.alloc (.map #[] 0)) n.b n.a (wq.heap.size+1) (by simp)
  rw[qV,hqs] at this
  rw[hw1];exact this)
 have HS1:Hid (w.heap.size+1+1<=w1.heap.size):=zqh (by rw[hw1];simp;omega)
 have HM1:=zqh hw1
 have hmm:=@run_makeMap Tryz.prog
 obtain ⟨i0,hi0,hi1,hi2,hi3⟩:=yZ zcJ
 have n5:(wq.alloc (.map #[] 0)).cell? ⟨w.heap.size,5,none⟩=some (.int .i64 n.a):=((HNb.out.alloc (.map #[] 0)).cell 5)
 have n6:(wq.alloc (.map #[] 0)).cell? ⟨w.heap.size,6,none⟩=some (.int .i64 n.b):=((HNb.out.alloc (.map #[] 0)).cell 6)
 rw[hwq] at n5 n6 hw1
 have HWq:=zqh hwq
 clear h hk hn ha hb hgp hwq hw1 hqs
 go_enter Tryz.func95,Tryz.ntmps95
 go_wp2_with fail
 rw[<-HWq.out,<-HM1.out]
 clear n5 n6 hmm
 go_loopw [5,7] (fun v7 v9 wr=>∃(s T fd:List Int),Hid (zbO ns k [n.b,n.a] s T fd)/\Hid (zas wr (w.heap.size+1+1) v7 fd)/\Hid (zas wr (w.heap.size+1+1) v9 T)/\Hid (v7.ownBlock=none\/v7.ownBlock≠v9.ownBlock)/\Hid (zaT wr (w.heap.size+1) s.length s)/\Hid (Below (w.heap.size+1) wq wr)/\Hid (w.heap.size+1+1<=wr.heap.size/\T.length<=20000+s.length/\fd.length<=s.length/\s.length<=ns.length)) (fun v7 v9 wr=>2*zdP ns.length (zj0 wr (w.heap.size+1))+zte v9)
 case atStart=>exact ⟨[],[n.b,n.a],[],zqh (zbO.start HI.out),zqh (zas.nil _ _),HR1,zqh (Or.inl rfl),HM2,HB2,zqh ⟨HS1.out,by show 2<=20000+0;omega,qL _,qK _⟩⟩
 case round =>
  clear HR1 HB2 HM2 HS1 HM1
  obtain ⟨s,T,fd,HV,HR7,HR9,HAp,HS,HB,HZ⟩:=hrel
  rcases List.eq_nil_or_concat T with rfl | ⟨T',x,rfl⟩
  ·obtain ⟨A9,c9,rfl⟩:=HR9.out.len
   have hb:(decide ((0:Int)<(([]:List Int).length:Int)))=false:=rfl
   go_wp2_with fail
   go_ret
   have hd:=zbO.done HF.out HK.out HV.out
   refine ⟨_,fd,rfl,HR7.out.base (qH (kU _) (kU _)),hd.1,fun y=>?_,HQ.out.trans (HB.out.mono (kU _))⟩
   rw[hd.2 y]
   constructor
   ·rintro ⟨x,hx,hy⟩
    rcases List.mem_cons.1 hx with rfl | hx
    ·exact Or.inr hy
    ·rw[List.mem_singleton.1 hx] at hy;exact Or.inl hy
   ·rintro (hy | hy)
    ·exact ⟨n.a,by simp,hy⟩
    ·exact ⟨n.b,by simp,hy⟩
  ·rw[List.concat_eq_append] at HV HR9 HZ
   obtain ⟨pn,hp⟩:∃pn,pn=T'.length:=⟨_,rfl⟩
   have hlen:(T'++[x]).length=pn+1:=by rw[qF,hp];rfl
   obtain ⟨g9,cap9,e9,hc9⟩:=HR9.out.form (by rw[hlen];omega)
   rw[hlen] at e9
   have hx9:=hc9 pn (by rw[hlen];omega)
   rw[show (T'++[x])[pn]'(by rw[hlen];omega)=x by simp[hp]] at hx9
   subst e9
   have HI9:=zqh (HR9.out.init hp.symm)
   have hxi:=HV.out.tin x (by simp)
   have HXi:=zqh hxi
   have hxI:I64 x:=by unfold zac at hxi;unfold I64;omega
   have hlk:=HS.out.look hxI
   have HP:=zqh hp
   have HpB:Hid (pn+1<=20000+s.length/\s.length<=20000):=zqh (by have:=HZ.out;rw[hlen] at this;omega)
   have hpz:(0:Int)<(pn:Int)+1:=by omega
   have hpn:(pn:Int)<(pn:Int)+1:=by omega
   have hpb:pn+1<=1000000:=by have:=HpB.out;omega
   have HMu:Hid (∀wq sq,zaT wq (w.heap.size+1) sq.length sq->zdP ns.length (zj0 wq (w.heap.size+1))=zdP ns.length (fun y=>decide (y∈sq))):=zqh (fun wq sq hq=>zi0 hq (by omega))
   have hcp:(pn:Int)<=(cap9:Int):=by have:=HI9.out.cap;omega
   clear hc9 hxi hp hlen
   by_cases hs:x∈s
   ·rw[qD hs] at hlk
    have HXs:=zqh hs
    clear hs
    have hal:Below wr.heap.size wr (wr.alloc (.cells #[] 111)):=zqb
    have HS2:=zqh (HS.out.kept (hal.block _ HS.out.lt))
    have HAl:=zqh hal
    clear hal
    go_wp2_with fail
    refine ⟨⟨s,T',fd,zqh (HV.out.skip HXs.out),zqh (HR7.out.next HAl.out),zqh (HI9.out.next HAl.out),HAp,HS2,zqh (HB.out.trans (HAl.out.mono (szq HQs.out HB.out))),zqh ⟨by have:=HAl.out.size;have:=HZ.out;omega,by have:=HpB.out;have:=HP.out;omega,HZ.out.2.2⟩⟩,?_⟩
    rw[HMu.out _ _ HS2.out,HMu.out _ _ HS.out]
    show _+pn<_+(pn+1)
    omega
   ·rw[qE hs] at hlk
    have HXs:=zqh hs
    clear hs
    have hal:Below wr.heap.size wr (wr.alloc (.cells #[] 111)):=zqb
    obtain ⟨w3,hup,hs3,hg3⟩:=(HS.out.kept (hal.block _ HS.out.lt)).store hxI (by have:=HpB.out;omega)
    have HS3:=zqh hs3
    have HG3:Hid (wr.grownBy w3 (some (w.heap.size+1))):=zqh ⟨hg3.os.trans hal.os,hg3.tape.trans hal.tape,hg3.output.trans hal.output,qH hal.size hg3.size,fun b hb hn=>(hg3.block b (qM hb hal.size) hn).trans (hal.block b hb)⟩
    have hB3:Below (w.heap.size+1) wq w3:=⟨HG3.out.os.trans HB.out.os,HG3.out.tape.trans HB.out.tape,HG3.out.output.trans HB.out.output,qH HB.out.size HG3.out.size,fun b hb=>(HG3.out.block b (qM hb (szq HQs.out HB.out)) (fun e=>by injection e with e;omega)).trans (HB.out.block b hb)⟩
    have HB3:=zqh hB3
    have HR73:Hid (zas w3 (w.heap.size+1+1) u5 fd):=zqh (HR7.out.grown HG3.out (fun c e q=>by injection e with e;have:=(HR7.out.lt q).1;omega))
    have HI93:Hid (zas w3 (w.heap.size+1+1) (.slice (some ⟨g9,0,none⟩) pn cap9) T'):=zqh (HI9.out.grown HG3.out (fun c e q=>by injection e with e;have:=(HI9.out.lt q).1;omega))
    have HLq:=zqh (HW.out.next (HQ.out.trans (hB3.mono (kU _))))
    have HN:=zar.nodeIn x HLq.out.ar hxI
    rw[HP0.out] at HN
    have HN:=zqh HN
    have a0:=HLq.out.cells.1
    rw[HP0.out] at a0
    have hdx:decide (0<=x/\x<(ns.length:Int))=true:=qD HXi.out
    have HB0:Hid (At w3 w.heap.size 61 n.cs.toArray):=zqh ((hB3.block _ (xW _)).trans HNb.out)
    clear hal hs3 hg3 hB3
    go_wp2_with fail
    refine HN.out.mono ?_
    rintro e w4 ⟨u,rfl,hu,hb4⟩
    have hu:=hu HXi.out
    rw[hdx]
    have HKx:Hid (kd ns x=u.kind/\ka ns x=u.a/\kb ns x=u.b):=zqh ⟨by unfold kd;rw[<-hu],by unfold ka;rw[<-hu],by unfold kb;rw[<-hu]⟩
    have HXb:=zqh (zbq w4 u)
    have HB0b:Hid (At (zaD w4 u) w.heap.size 61 n.cs.toArray):=zqh (((hb4.trans ((zaN w4 u).mono hb4.size)).block _ HB0.out.lt).trans HB0.out)
    have k0:=(Nd.cells HB0b.out).1
    rw[HKn.out] at k0
    have hb5:=hb4.trans ((zaN w4 u).mono hb4.size)
    have HB5:=zqh (HB3.out.trans (hb5.mono (szq HQs.out HB3.out)))
    have HZ5:Hid (w.heap.size+1+1<=(zaD w4 u).heap.size):=zqh (by have:=HZ.out;have:=HG3.out.size;have:=hb5.size;omega)
    have HR75:=zqh (HR73.out.next hb5)
    have HI95:=zqh (HI93.out.next hb5)
    have HS5:=zqh (HS3.out.kept (hb5.block _ HS3.out.lt))
    obtain ⟨c0,c1,c2,c3,c4,c5,c6,c7⟩:=Nd.cells HXb.out
    clear hu hb4 hb5 hdx hlk hup a0
    obtain ⟨w5,hw5⟩:∃w5,w5=zaD w4 u:=⟨_,rfl⟩
    have HW5:=zqh hw5
    have hsz:s.length+1=(x::s).length:=rfl
    have hPl:=HpB.out
    have hZ3:=HZ.out.2.2.1
    by_cases hk:u.kind=k
    ·have HKk:Hid (kd ns x=k):=zqh (HKx.out.1.trans hk)
     have hkb:(u.kind==k)=true:=by rw[hk];simp
     obtain ⟨w6,hw6⟩:∃w6,w6=(zaD w4 u).alloc (.cells #[.int .i64 u.b,.int .i64 u.a] 3):=⟨_,rfl⟩
     have hb6:Below (zaD w4 u).heap.size (zaD w4 u) w6:=by rw[hw6];exact zqb
     have HB6:=zqh (HB5.out.trans (hb6.mono (szq HQs.out HB5.out)))
     have HZ6:Hid (w.heap.size+1+1<=w6.heap.size):=zqh (qH HZ5.out hb6.size)
     have HR76:=zqh (HR75.out.next hb6)
     have HRw:=zqh (HI95.out.next hb6)
     have HS6:=zqh (HS5.out.kept (hb6.block _ HS5.out.lt))
     have HW6:=zqh hw6
     rw[hw6] at HRw HZ6
     have hpT:T'.length<=1000000:=by rw[<-HP.out];omega
     clear hk hw5 hw6 hb6
     go_wp2_with (first
      |(with_reducible show wpList _ _ _ (⟨none,.store _ _ _,_,_,_,_⟩::_) _ _
        refine qN rfl 61 _ _ rfl w4.heap.size u.cs.toArray rfl rfl 61 Nd.zero.cs.toArray (At.new _ _ _) (by kernel_rfl) rfl (Nd.one u) ?_
        first | change wpList _ _ _ _ _ (zaD w4 u) | change Exit.then _ _ _ _ (zaD w4 u))
      |(at_builtin;go_loud (refine xI _ rfl _ _ _ rfl (w.heap.size+1+1) 3 i0 _ 1 8 Tryz.underlying80 hi0 hi1 hi2 hi3 rfl (by omega) (.slice (some ⟨g9,0,none⟩) pn cap9) _ _ rfl HRw.out ⟨_,0,none⟩ 2 2 [.int .i64 u.b,.int .i64 u.a] rfl rfl ?c1 ?c2 ?c3 ?c4 ?c5 ?_);go_loud (case c1=>exact World.news_of_block (At.new _ _ _));go_loud (case c2=>simp[Value.oneCell']);go_loud (case c3=>unfold maxLen;omega);go_loud (case c4=>omega);go_loud (case c5=>exact HZ6.out);(intro v' w7 hown7 hg7 _ hat7))
      | fail)
     rw[<-HW6.out] at hg7 hat7
     have hr9:zas w7 (w.heap.size+1+1) v' (T'++[u.b,u.a]):=by
      unfold zas idL
      have:=hown7
      unfold idL at this
      rw[qF,jE]
      exact this
     have hap:u5.ownBlock=none\/u5.ownBlock≠v'.ownBlock:=by
      rcases HAp.out with q | q
      ·exact Or.inl q
      ·rcases hat7 with z | z
       ·rw[z];exact Or.inr q
       ·right
        rw[z]
        intro q2
        have:=(HR76.out.lt q2).2
        omega
     have hr7:zas w7 (w.heap.size+1+1) u5 fd:=HR76.out.grown hg7 (fun c e q=>by
      rcases HAp.out with z | z
      ·rw[z] at q;cases q
      ·exact z (by rw[q];exact e.symm))
     have hs7:zaT w7 (w.heap.size+1) (x::s).length (x::s):=HS6.out.kept (hg7.block _ HS6.out.lt (fun e=>by have:=(HI95.out.lt (c:=(w.heap.size+1)) e.symm).1;omega))
     have hb7:Below (w.heap.size+1) wq w7:=⟨hg7.os.trans HB6.out.os,hg7.tape.trans HB6.out.tape,hg7.output.trans HB6.out.output,qH HB6.out.size hg7.size,fun b hb=>(hg7.block b (qM hb (szq HQs.out HB6.out)) (fun e=>by have:=(HI95.out.lt (c:=b) e.symm).1;omega)).trans (HB6.out.block b hb)⟩
     have hv7:=HV.out.nodeStep HF.out HK.out HXs.out HKk.out
     rw[HKx.out.2.1,HKx.out.2.2] at hv7
     have hv7:=hv7.swap
     have hsl:(x::s).length<=ns.length:=zbd hv7.nd hv7.sin
     have hz7:w.heap.size+1+1<=w7.heap.size:=qH (by have:=HZ6.out;rw[<-HW6.out] at this;exact this) hg7.size
     obtain ⟨A9',c9',e9'⟩:=hr9.len
     refine ⟨⟨x::s,T'++[u.b,u.a],fd,zqh hv7,zqh hr7,zqh hr9,zqh hap,zqh hs7,zqh hb7,zqh ⟨hz7,by rw[qF];have:=HpB.out;have:=HP.out;simp;omega,by have:=HZ.out;simp;omega,hsl⟩⟩,?_⟩
     rw[HMu.out _ _ hs7,HMu.out _ _ HS.out]
     have hun:=zdv (n:=ns.length) HXi.out.1 HXi.out.2 HXs.out
     have hl9:zte v'=pn+2:=by rw[e9'];show (T'++[u.b,u.a]).length=_;rw[qF,<-HP.out];rfl
     show _+zte v'<_+(pn+1)
     omega
    ·have HKk:Hid (kd ns x≠k):=zqh (fun q=>hk (HKx.out.1.symm.trans q))
     have hkb:=(zab hk).1
     obtain ⟨w6,hw6⟩:∃w6,w6=(zaD w4 u).alloc (.cells #[.int .i64 x] 3):=⟨_,rfl⟩
     have hb6:Below (zaD w4 u).heap.size (zaD w4 u) w6:=by rw[hw6];exact zqb
     have HB6:=zqh (HB5.out.trans (hb6.mono (szq HQs.out HB5.out)))
     have HZ6:Hid (w.heap.size+1+1<=w6.heap.size):=zqh (qH HZ5.out hb6.size)
     have HI96:=zqh (HI95.out.next hb6)
     have HRw:=zqh (HR75.out.next hb6)
     have HR76:=HRw
     have HS6:=zqh (HS5.out.kept (hb6.block _ HS5.out.lt))
     have HW6:=zqh hw6
     rw[hw6] at HRw HZ6
     have hfl:fd.length<=20000:=by have:=HpB.out;omega
     clear hk hw5 hw6 hb6
     go_wp2_with (first
      |(with_reducible show wpList _ _ _ (⟨none,.store _ _ _,_,_,_,_⟩::_) _ _
        refine qN rfl 61 _ _ rfl w4.heap.size u.cs.toArray rfl rfl 61 Nd.zero.cs.toArray (At.new _ _ _) (by kernel_rfl) rfl (Nd.one u) ?_
        first | change wpList _ _ _ _ _ (zaD w4 u) | change Exit.then _ _ _ _ (zaD w4 u))
      |(at_builtin
        refine xI _ rfl _ _ _ rfl (w.heap.size+1+1) 3 i0 _ 1 8 Tryz.underlying80 hi0 hi1 hi2 hi3 rfl (by omega) u5 _ _ rfl HRw.out ⟨_,0,none⟩ 1 1 [.int .i64 x] rfl rfl (cell_one_new _ _ _) ?c2 ?c3 ?c4 ?c5 ?_
        case c2=>simp[Value.oneCell']
        case c3=>unfold maxLen;omega
        case c4=>omega
        case c5=>exact HZ6.out
        intro v' w7 hown7 hg7 _ hat7)
      | fail)
     rw[<-HW6.out] at hg7 hat7
     have hr7:zas w7 (w.heap.size+1+1) v' (fd++[x]):=by
      unfold zas idL
      have:=hown7
      unfold idL at this
      simpa using this
     have hap:v'.ownBlock=none\/v'.ownBlock≠(Value.slice (some ⟨g9,0,none⟩) pn cap9).ownBlock:=by
      rcases hat7 with z | z
      ·rw[z];exact HAp.out
      ·right
       rw[z]
       intro q2
       have:=(HI96.out.lt q2.symm).2
       omega
     have hr9:zas w7 (w.heap.size+1+1) (.slice (some ⟨g9,0,none⟩) pn cap9) T':=HI96.out.grown hg7 (fun c e q=>by
      rcases HAp.out with z | z
      ·rw[z] at e;cases e
      ·exact z (by rw[e];exact q.symm))
     have hs7:zaT w7 (w.heap.size+1) (x::s).length (x::s):=HS6.out.kept (hg7.block _ HS6.out.lt (fun e=>by have:=(HR76.out.lt (c:=(w.heap.size+1)) e.symm).1;omega))
     have hb7:Below (w.heap.size+1) wq w7:=⟨hg7.os.trans HB6.out.os,hg7.tape.trans HB6.out.tape,hg7.output.trans HB6.out.output,qH HB6.out.size hg7.size,fun b hb=>(hg7.block b (qM hb (szq HQs.out HB6.out)) (fun e=>by have:=(HR76.out.lt (c:=b) e.symm).1;omega)).trans (HB6.out.block b hb)⟩
     have hv7:=HV.out.leafStep HXs.out HKk.out
     have hsl:(x::s).length<=ns.length:=zbd hv7.nd hv7.sin
     have hz7:w.heap.size+1+1<=w7.heap.size:=qH (by have:=HZ6.out;rw[<-HW6.out] at this;exact this) hg7.size
     refine ⟨⟨x::s,T',fd++[x],zqh hv7,zqh hr7,zqh hr9,zqh hap,zqh hs7,zqh hb7,zqh ⟨hz7,by have:=HpB.out;have:=HP.out;simp;omega,by have:=HZ.out;simp;omega,hsl⟩⟩,?_⟩
     rw[HMu.out _ _ hs7,HMu.out _ _ HS.out]
     have hun:=zdv (n:=ns.length) HXi.out.1 HXi.out.2 HXs.out
     show _+pn<_+(pn+1)
     omega
end
end
end Go.Proofs.YtdmodhnhldbpnaaGreat
