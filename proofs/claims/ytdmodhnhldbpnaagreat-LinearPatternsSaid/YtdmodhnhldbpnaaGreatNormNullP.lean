/- norm.Null: place.null and place.nullOfOthers, by recursion over the node's number. -/
import Derived.Test.YtdmodhnhldbpnaaGreatMap
import Derived.Test.YtdmodhnhldbpnaaGreatMal
import Derived.Test.YtdmodhnhldbpnaaGreatMai
import Derived.Test.YtdmodhnhldbpnaaGreatAid
set_option linter.unusedSimpArgs false
set_option linter.unusedVariables false
set_option maxHeartbeats 16000000
set_option maxRecDepth 100000
namespace Go.Proofs.YtdmodhnhldbpnaaGreat
open Go.RowKit
theorem zqu:∀z:Nat,z<256->(Go.bits .and .u8 (z:Int) 1==1)=decide (z % 2=1):=by decide +kernel
theorem zol (y q:Nat) (hy:y<256) (hk:q<4):(Go.bits .and .u8 ((y:Int) / 2 ^ q) 1==1)=decide (y >>> q % 2=1):=by
 have h1:((y:Int) / 2 ^ q)=((y >>> q:Nat):Int):=by
  rw[Nat.shiftRight_eq_div_pow,Int.natCast_ediv,Int.natCast_pow];rfl
 rw[h1];exact zqu _ (kI (Nat.shiftRight_le _ _) hy)
section
variable {AA:World->Value->List Nd->(Nat->Prop)->Prop}
def zcZ (ns:List Nd) (bits g m:Nat) (s:List Int) (a:Value) (id:Int) (w:World) (e:Ending) (w':World):Prop:=e=.returned (.bool (zan ns bits id))/\OffF (fun b=>b=m) w w'/\∃s',zcc w' a ns bits g m s'/\∀z∈s',z∈s\/z<=id
def zli (AA:World->Value->List Nd->(Nat->Prop)->Prop) (bits n:Nat):Prop:=∀(id:Int) {w:World} {a:Value} {ns:List Nd} {F:Nat->Prop} {g m:Nat} {s:List Int},id.toNat<=n->AA w a ns F->I64 id->zcc w a ns bits g m s->¬F m ->
 Calls Tryz.prog 103 #[.pointer (some ⟨g,0,none⟩),.int .i64 id] w (zcZ ns bits g m s a id w)
theorem zcN (S:ArenaMid AA) {w w':World} {a:Value} {ns:List Nd} {F:Nat->Prop} {m:Nat} (h:AA w a ns F) (ho:OffF (fun b=>b=m) w w') (hF:¬F m):AA w' a ns F :=
 S.keep h (fun b q=>ho.block b (S.low h b q) (fun e=>hF (by rw[<-e];exact q)))
theorem zdz (S:ArenaMid AA) (bits n:Nat) (IH:zli AA bits n) (id:Int) (u:Nd) {w:World} {a:Value} {ns:List Nd} {F:Nat->Prop} {g m:Nat} {s:List Int} (hn:id.toNat<=n+1) (h:AA w a ns F) (hin:zac ns id) (hp:zcc w a ns bits g m s) (hF:¬F m) (hu:u=zaQ ns id.toNat) (hk:u.kind=3\/u.kind=4\/u.kind=5\/u.kind=6) :
  Calls Tryz.prog 146 #[.pointer (some ⟨g,0,none⟩),.int .i64 id,.agg u.cs.toArray] w (zcZ ns bits g m s a id w):=by
 have hmx:=S.max h
 have hid:I64 id:=by unfold zac at hin;unfold I64;omega
 have HId:=zqh hid
 have HA:=zqh h
 have HF:=zqh hF
 have HFi:=zqh (S.fine h)
 have HI:=zqh hin
 have HP:=zqh hp
 have HNn:=zqh hn
 have HIH:=zqh IH
 have HK:Hid (kd ns id=u.kind/\ka ns id=u.a/\kb ns id=u.b/\(zaQ ns id.toNat).neg=u.neg):=zqh ⟨by unfold kd;rw[<-hu],by unfold ka;rw[<-hu],by unfold kb;rw[<-hu],by rw[<-hu]⟩
 have hu0:u.cs[0]?=some (.int .i64 u.kind):=rfl
 have hu5:u.cs[5]?=some (.int .i64 u.a):=rfl
 have hu6:u.cs[6]?=some (.int .i64 u.b):=rfl
 obtain ⟨w1,hw1⟩:∃w1,w1=w.alloc (.cells u.cs.toArray 61):=⟨_,rfl⟩
 have hB1:Below w.heap.size w w1:=by rw[hw1];exact zqb
 have HP1:=zqh (hp.next hB1)
 have c2:=HP1.out.box.cell 2
 rw[hw1] at c2
 have hlk:=HP1.out.ids.look hid
 rw[hw1] at hlk
 have hU1:At w1 w.heap.size 61 u.cs.toArray:=by rw[hw1];exact At.new _ _ _
 by_cases hs:id∈s
 ·rw[qD hs,jS] at hlk
  have HS:=zqh hs
  have HB2:Hid (Below w.heap.size w (w1.alloc (.cells #[.bool (zan ns bits id)] 200))):=zqh (hB1.alloc hB1.size _)
  rw[hw1] at HB2
  clear h hin hp hF hu hk hn IH hw1 hB1 hU1 hs
  go_enter Tryz.func146,Tryz.ntmps146
  go_wp2_with fail
  go_ret
  exact ⟨rfl,OffF.of HB2.out,s,HP.out.next HB2.out,fun z hz=>Or.inl hz⟩
 ·rw[qE hs,yC] at hlk
  have HS:=zqh hs
  obtain ⟨w2,hw2⟩:∃w2,w2=w1.alloc (.cells #[.bool false] 200):=⟨_,rfl⟩
  have hB2:Below w.heap.size w w2:=by rw[hw2];exact hB1.alloc hB1.size _
  have HB2:=zqh hB2
  have HA2:=zqh (S.next h hB2)
  have HP2:=zqh (hp.next hB2)
  have HU2:Hid (At w2 w.heap.size 61 u.cs.toArray):=zqh (by rw[hw2];exact hU1.alloc _)
  have HM:Hid (w.heap.size≠m/\w.heap.size≠g/\m<w.heap.size/\g<w.heap.size):=zqh (by have:=hp.box.lt;have:=hp.ids.lt;omega)
  rw[hw1] at hw2
  have HW2:=zqh hw2
  have HSt:Hid (∀(w3:World) (s3:List Int) (v:Bool),zcc w3 a ns bits g m s3->v=zan ns bits id->(∀z∈s3,z∈s\/z<id)->OffF (fun b=>b=m) w w3->∃w4,(Instr.mapUpdate 142 (.map (some m)) (.int .i64 id) (.agg #[.bool v])).run Tryz.prog w3=.ok () w4/\∀e,e=.returned (.bool v)->zcZ ns bits g m s a id w e w4):=zqh (by
   intro w3 s3 v hp3 hv hs3 ho
   obtain ⟨w4,h1,h2,h3⟩:=hp3.ids.store HId.out hv (by have:=hp3.room;omega)
   refine ⟨w4,h1,fun e he=>⟨by rw[he,hv],ho.grown h3 (fun b e=>by injection e with e;exact Or.inl e.symm),id::s3,⟨(h3.block _ hp3.box.lt (fun e=>by injection e with e;exact hp3.ne e)).trans hp3.box,h2,hp3.ne,List.nodup_cons.2 ⟨fun q=>?_,hp3.nodup⟩,fun z hz=>?_⟩,fun z hz=>?_⟩⟩
   ·rcases hs3 _ q with q | q
    ·exact HS.out q
    ·omega
   ·rcases List.mem_cons.1 hz with rfl | hz
    ·exact HI.out
    ·exact hp3.inn z hz
   ·rcases List.mem_cons.1 hz with rfl | hz
    ·exact Or.inr (gE _)
    ·rcases hs3 z hz with q | q
     ·exact Or.inl q
     ·exact Or.inr (by omega))
  have HIc:Hid (∀(c:Int) (w3:World) (s3:List Int),c<id->zac ns c->zcc w3 a ns bits g m s3->AA w3 a ns F->Calls Tryz.prog 103 #[.pointer (some ⟨g,0,none⟩),.int .i64 c] w3 (zcZ ns bits g m s3 a c w3)):=zqh (by
   intro c w3 s3 hc hci hp3 hA3
   have h1:=HI.out
   have h2:=hci
   unfold zac at h1 h2
   exact HIH.out c (by have:=HNn.out;omega) hA3 (by unfold I64;omega) hp3 HF.out)
  have hkk:=hk
  clear h hin hp hF hu hn IH hw1 hw2 hB1 hB2 hU1 hs hk
  by_cases hk6:u.kind=6
  ·have HKd:=zqh hk6
   rw[hk6] at hu0
   clear hkk hk6
   go_enter Tryz.func146,Tryz.ntmps146
   have HV:Hid (zan ns bits id=!zan ns bits u.a):=zqh (by rw[<-HK.out.2.1];exact zqX HFi.out bits HI.out (by rw[HK.out.1];exact HKd.out))
   obtain ⟨ia,la⟩:=zbT HFi.out HI.out (by rw[HK.out.1];have:=HKd.out;omega)
   rw[HK.out.2.1] at ia la
   have HIa:=zqh ia
   have HLa:=zqh la
   clear ia la
   go_wp2_with fail
   rw[<-HW2.out]
   refine (HIc.out u.a w2 _ HLa.out HIa.out HP2.out HA2.out).mono ?_
   rintro e w3 ⟨rfl,how3,s3,hpw3,hsw3⟩
   have HOw3:=zqh ((OffF.of HB2.out).off how3 (fun b z=>Or.inl z))
   have HPw3:=zqh hpw3
   have HAw3:=zqh (zcN S HA2.out how3 HF.out)
   have HSw3:=zqh hsw3
   have HUw3:Hid (At w3 w.heap.size 61 u.cs.toArray):=zqh ((how3.block _ HU2.out.lt (fun e=>HM.out.1 e)).trans HU2.out)
   clear how3 hpw3 hsw3
   obtain ⟨w9,hr9,hq9⟩:=HSt.out w3 _ (!zan ns bits u.a) HPw3.out (by rw[HV.out]) (fun z hz=>by rcases HSw3.out z hz with q | q;exact Or.inl q;exact Or.inr (yV q HLa.out)) HOw3.out
   have HQ9:=zqh hq9
   have c2:=HPw3.out.box.cell 2
   clear hq9
   go_wp2_with fail
   go_ret
   exact HQ9.out _ rfl
  have hb6:=(zab hk6).1
  by_cases hk4:u.kind=4
  ·have HKd:=zqh hk4
   rw[hk4] at hu0
   clear hkk hk4
   go_enter Tryz.func146,Tryz.ntmps146
   have HV:Hid (zan ns bits id=(zan ns bits u.a||zan ns bits u.b)):=zqh (by rw[<-HK.out.2.1,<-HK.out.2.2.1];exact zqV HFi.out bits HI.out (by rw[HK.out.1];exact HKd.out))
   obtain ⟨⟨ia,la⟩,ib,lb⟩:=zaK HFi.out HI.out (by rw[HK.out.1];have:=HKd.out;omega)
   rw[HK.out.2.1] at ia la
   rw[HK.out.2.2.1] at ib lb
   have HIa:=zqh ia
   have HIb:=zqh ib
   have HLa:=zqh la
   have HLb:=zqh lb
   clear ia la ib lb
   go_wp2_with fail
   rw[<-HW2.out]
   refine (HIc.out u.a w2 _ HLa.out HIa.out HP2.out HA2.out).mono ?_
   rintro e w3 ⟨rfl,how3,s3,hpw3,hsw3⟩
   have HOw3:=zqh ((OffF.of HB2.out).off how3 (fun b z=>Or.inl z))
   have HPw3:=zqh hpw3
   have HAw3:=zqh (zcN S HA2.out how3 HF.out)
   have HSw3:=zqh hsw3
   have HUw3:Hid (At w3 w.heap.size 61 u.cs.toArray):=zqh ((how3.block _ HU2.out.lt (fun e=>HM.out.1 e)).trans HU2.out)
   clear how3 hpw3 hsw3
   obtain ⟨r,hr⟩:∃r,zan ns bits u.a=r:=⟨_,rfl⟩
   rw[hr] at HV
   rw[hr]
   clear hr
   have c6:=(Nd.cells HUw3.out).2.2.2.2.2.2.1
   cases r
   ·go_wp2_with fail
    refine (HIc.out u.b w3 _ HLb.out HIb.out HPw3.out HAw3.out).mono ?_
    rintro e w4 ⟨rfl,how4,s4,hpw4,hsw4⟩
    have HOw4:=zqh ((HOw3.out).off how4 (fun b z=>Or.inl z))
    have HPw4:=zqh hpw4
    have HAw4:=zqh (zcN S HAw3.out how4 HF.out)
    have HSw4:=zqh hsw4
    have HUw4:Hid (At w4 w.heap.size 61 u.cs.toArray):=zqh ((how4.block _ HUw3.out.lt (fun e=>HM.out.1 e)).trans HUw3.out)
    clear how4 hpw4 hsw4
    obtain ⟨w9,hr9,hq9⟩:=HSt.out w4 _ (zan ns bits u.b) HPw4.out (by rw[HV.out];rfl) (fun z hz=>by rcases HSw4.out z hz with q | q;(rcases HSw3.out z q with q | q;exact Or.inl q;exact Or.inr (yV q HLa.out));exact Or.inr (yV q HLb.out)) HOw4.out
    have HQ9:=zqh hq9
    have c2:=HPw4.out.box.cell 2
    clear hq9
    go_wp2_with fail
    go_ret
    exact HQ9.out _ rfl
   ·obtain ⟨w9,hr9,hq9⟩:=HSt.out w3 _ (true) HPw3.out (by rw[HV.out];rfl) (fun z hz=>by rcases HSw3.out z hz with q | q;exact Or.inl q;exact Or.inr (yV q HLa.out)) HOw3.out
    have HQ9:=zqh hq9
    have c2:=HPw3.out.box.cell 2
    clear hq9
    go_wp2_with fail
    go_ret
    exact HQ9.out _ rfl
  have hb4:=(zab hk4).1
  by_cases hk3:u.kind=3
  ·have HKd:=zqh hk3
   rw[hk3] at hu0
   clear hkk hk3
   go_enter Tryz.func146,Tryz.ntmps146
   have HV:Hid (zan ns bits id=(zan ns bits u.a&&zan ns bits u.b)):=zqh (by rw[<-HK.out.2.1,<-HK.out.2.2.1];exact zqU HFi.out bits HI.out (by rw[HK.out.1];exact HKd.out))
   obtain ⟨⟨ia,la⟩,ib,lb⟩:=zaK HFi.out HI.out (by rw[HK.out.1];have:=HKd.out;omega)
   rw[HK.out.2.1] at ia la
   rw[HK.out.2.2.1] at ib lb
   have HIa:=zqh ia
   have HIb:=zqh ib
   have HLa:=zqh la
   have HLb:=zqh lb
   clear ia la ib lb
   go_wp2_with fail
   rw[<-HW2.out]
   refine (HIc.out u.a w2 _ HLa.out HIa.out HP2.out HA2.out).mono ?_
   rintro e w3 ⟨rfl,how3,s3,hpw3,hsw3⟩
   have HOw3:=zqh ((OffF.of HB2.out).off how3 (fun b z=>Or.inl z))
   have HPw3:=zqh hpw3
   have HAw3:=zqh (zcN S HA2.out how3 HF.out)
   have HSw3:=zqh hsw3
   have HUw3:Hid (At w3 w.heap.size 61 u.cs.toArray):=zqh ((how3.block _ HU2.out.lt (fun e=>HM.out.1 e)).trans HU2.out)
   clear how3 hpw3 hsw3
   obtain ⟨r,hr⟩:∃r,zan ns bits u.a=r:=⟨_,rfl⟩
   rw[hr] at HV
   rw[hr]
   clear hr
   have c6:=(Nd.cells HUw3.out).2.2.2.2.2.2.1
   cases r
   ·obtain ⟨w9,hr9,hq9⟩:=HSt.out w3 _ (false) HPw3.out (by rw[HV.out];rfl) (fun z hz=>by rcases HSw3.out z hz with q | q;exact Or.inl q;exact Or.inr (yV q HLa.out)) HOw3.out
    have HQ9:=zqh hq9
    have c2:=HPw3.out.box.cell 2
    clear hq9
    go_wp2_with fail
    go_ret
    exact HQ9.out _ rfl
   ·go_wp2_with fail
    refine (HIc.out u.b w3 _ HLb.out HIb.out HPw3.out HAw3.out).mono ?_
    rintro e w4 ⟨rfl,how4,s4,hpw4,hsw4⟩
    have HOw4:=zqh ((HOw3.out).off how4 (fun b z=>Or.inl z))
    have HPw4:=zqh hpw4
    have HAw4:=zqh (zcN S HAw3.out how4 HF.out)
    have HSw4:=zqh hsw4
    have HUw4:Hid (At w4 w.heap.size 61 u.cs.toArray):=zqh ((how4.block _ HUw3.out.lt (fun e=>HM.out.1 e)).trans HUw3.out)
    clear how4 hpw4 hsw4
    obtain ⟨w9,hr9,hq9⟩:=HSt.out w4 _ (zan ns bits u.b) HPw4.out (by rw[HV.out];rfl) (fun z hz=>by rcases HSw4.out z hz with q | q;(rcases HSw3.out z q with q | q;exact Or.inl q;exact Or.inr (yV q HLa.out));exact Or.inr (yV q HLb.out)) HOw4.out
    have HQ9:=zqh hq9
    have c2:=HPw4.out.box.cell 2
    clear hq9
    go_wp2_with fail
    go_ret
    exact HQ9.out _ rfl
  have hb3:=(zab hk3).1
  by_cases hk5:u.kind=5
  ·have HKd:=zqh hk5
   rw[hk5] at hu0
   clear hkk hk5
   go_enter Tryz.func146,Tryz.ntmps146
   have HV:Hid (zan ns bits id=(zan ns bits u.a&&zan ns bits u.b)):=zqh (by rw[<-HK.out.2.1,<-HK.out.2.2.1];exact zqW HFi.out bits HI.out (by rw[HK.out.1];exact HKd.out))
   obtain ⟨⟨ia,la⟩,ib,lb⟩:=zaK HFi.out HI.out (by rw[HK.out.1];have:=HKd.out;omega)
   rw[HK.out.2.1] at ia la
   rw[HK.out.2.2.1] at ib lb
   have HIa:=zqh ia
   have HIb:=zqh ib
   have HLa:=zqh la
   have HLb:=zqh lb
   clear ia la ib lb
   go_wp2_with fail
   rw[<-HW2.out]
   refine (HIc.out u.a w2 _ HLa.out HIa.out HP2.out HA2.out).mono ?_
   rintro e w3 ⟨rfl,how3,s3,hpw3,hsw3⟩
   have HOw3:=zqh ((OffF.of HB2.out).off how3 (fun b z=>Or.inl z))
   have HPw3:=zqh hpw3
   have HAw3:=zqh (zcN S HA2.out how3 HF.out)
   have HSw3:=zqh hsw3
   have HUw3:Hid (At w3 w.heap.size 61 u.cs.toArray):=zqh ((how3.block _ HU2.out.lt (fun e=>HM.out.1 e)).trans HU2.out)
   clear how3 hpw3 hsw3
   obtain ⟨r,hr⟩:∃r,zan ns bits u.a=r:=⟨_,rfl⟩
   rw[hr] at HV
   rw[hr]
   clear hr
   have c6:=(Nd.cells HUw3.out).2.2.2.2.2.2.1
   cases r
   ·obtain ⟨w9,hr9,hq9⟩:=HSt.out w3 _ (false) HPw3.out (by rw[HV.out];rfl) (fun z hz=>by rcases HSw3.out z hz with q | q;exact Or.inl q;exact Or.inr (yV q HLa.out)) HOw3.out
    have HQ9:=zqh hq9
    have c2:=HPw3.out.box.cell 2
    clear hq9
    go_wp2_with fail
    go_ret
    exact HQ9.out _ rfl
   ·go_wp2_with fail
    refine (HIc.out u.b w3 _ HLb.out HIb.out HPw3.out HAw3.out).mono ?_
    rintro e w4 ⟨rfl,how4,s4,hpw4,hsw4⟩
    have HOw4:=zqh ((HOw3.out).off how4 (fun b z=>Or.inl z))
    have HPw4:=zqh hpw4
    have HAw4:=zqh (zcN S HAw3.out how4 HF.out)
    have HSw4:=zqh hsw4
    have HUw4:Hid (At w4 w.heap.size 61 u.cs.toArray):=zqh ((how4.block _ HUw3.out.lt (fun e=>HM.out.1 e)).trans HUw3.out)
    clear how4 hpw4 hsw4
    obtain ⟨w9,hr9,hq9⟩:=HSt.out w4 _ (zan ns bits u.b) HPw4.out (by rw[HV.out];rfl) (fun z hz=>by rcases HSw4.out z hz with q | q;(rcases HSw3.out z q with q | q;exact Or.inl q;exact Or.inr (yV q HLa.out));exact Or.inr (yV q HLb.out)) HOw4.out
    have HQ9:=zqh hq9
    have c2:=HPw4.out.box.cell 2
    clear hq9
    go_wp2_with fail
    go_ret
    exact HQ9.out _ rfl
  have hb5:=(zab hk5).1
  exact absurd hkk (by omega)
theorem zom (S:ArenaMid AA) (bits n:Nat) (hbits:bits<256) (hIH:Hid (∀k,k+1=n->zli AA bits k)):zli AA bits n:=by
 intro id w a ns F g m s hn h hid hp hF
 have hmx:=S.max h
 have HA:=zqh h
 have HF:=zqh (S.fine h)
 have HFm:=zqh hF
 have HN:=zqh (S.node id h hid)
 have HNn:=zqh hn
 have HBi:=zqh hbits
 have HP:=zqh hp
 obtain ⟨gp,rfl⟩:=S.ptr h
 have c0:=hp.box.cell 0
 clear h hn hbits hp hF
 by_cases hin:zac ns id
 ·have HI:=zqh hin
  have hdx:decide (0<=id/\id<(ns.length:Int))=true:=qD hin
  clear hin
  go_enter Tryz.func103,Tryz.ntmps103
  go_wp2_with fail
  refine HN.out.mono ?_
  rintro e w1 ⟨u,rfl,hu,hb1,_⟩
  have hu:=hu HI.out
  rw[hdx]
  have HU:=zqh hu
  have HB1:=zqh hb1
  have HK:Hid (kd ns id=u.kind/\ka ns id=u.a/\kb ns id=u.b/\(zaQ ns id.toNat).neg=u.neg):=zqh ⟨by unfold kd;rw[<-hu],by unfold ka;rw[<-hu],by unfold kb;rw[<-hu],by rw[<-hu]⟩
  have HXb:=zqh (zbq w1 u)
  have HBb:=zqh (HB1.out.trans ((zaN w1 u).mono HB1.out.size))
  have HPb:=zqh (HP.out.next HBb.out)
  have HAb:=zqh (S.next HA.out HBb.out)
  have hone:=Nd.one u
  clear hu hb1 hdx c0
  have c1:=HPb.out.box.cell 1
  have ck:=(Nd.cells HXb.out).1
  by_cases hk1:u.kind=1
  ·have HKd:=zqh hk1
   rw[hk1] at ck
   clear hk1
   have HV:Hid (zan ns bits id=true):=zqh (ztL HF.out bits HI.out (by rw[HK.out.1];exact HKd.out))
   go_wp2_with (first
    |(with_reducible show wpList _ _ _ (⟨none,.store _ _ _,_,_,_,_⟩::_) _ _
      refine qN rfl 61 _ _ rfl w1.heap.size u.cs.toArray rfl rfl 61 Nd.zero.cs.toArray (At.new _ _ _) (by kernel_rfl) rfl hone ?_
      first | change wpList _ _ _ _ _ (zaD w1 u) | change Exit.then _ _ _ _ (zaD w1 u))
    | fail)
   go_ret
   exact ⟨by rw[HV.out];rfl,OffF.of HBb.out,s,HPb.out,fun z hz=>Or.inl hz⟩
  have hb1:=(zab hk1).1
  have h1:=zqh hk1
  clear hk1
  by_cases hk7:u.kind=7
  ·have HKd:=zqh hk7
   rw[hk7] at ck
   clear hk7 hb1
   have HV:Hid (zan ns bits id=true):=zqh (ztN HF.out bits HI.out (by rw[HK.out.1];exact HKd.out))
   go_wp2_with (first
    |(with_reducible show wpList _ _ _ (⟨none,.store _ _ _,_,_,_,_⟩::_) _ _
      refine qN rfl 61 _ _ rfl w1.heap.size u.cs.toArray rfl rfl 61 Nd.zero.cs.toArray (At.new _ _ _) (by kernel_rfl) rfl hone ?_
      first | change wpList _ _ _ _ _ (zaD w1 u) | change Exit.then _ _ _ _ (zaD w1 u))
    | fail)
   go_ret
   exact ⟨by rw[HV.out];rfl,OffF.of HBb.out,s,HPb.out,fun z hz=>Or.inl hz⟩
  have hb7:=(zab hk7).1
  have h7:=zqh hk7
  clear hk7
  by_cases hk8:u.kind=8
  ·have HKd:=zqh hk8
   rw[hk8] at ck
   clear hk8 hb1 hb7
   have HV:Hid (zan ns bits id=(decide (bits >>> u.a.toNat % 2=1) != u.neg)):=zqh (by rw[<-HK.out.2.1,<-HK.out.2.2.2];exact ztO HF.out bits HI.out (by rw[HK.out.1];exact HKd.out))
   have hok:=(zjN HF.out HI.out).2.2.2 (by have:=HKd.out;have h2:=HK.out.1;unfold kd at h2;rw[h2];exact this)
   have hka:(zaQ ns id.toNat).a=u.a:=HK.out.2.1
   rw[hka] at hok
   obtain ⟨q,hq⟩:∃q:Nat,u.a=(q:Int):=⟨u.a.toNat,by omega⟩
   have hq4:q<4:=by omega
   have HQ:=zqh hq
   have c5:=(Nd.cells HXb.out).2.2.2.2.2.1
   have c7:=(Nd.cells HXb.out).2.2.2.2.2.2.2
   rw[hq] at c5
   clear hok hka hq
   go_wp2_with (first
    |(with_reducible show wpList _ _ _ (⟨none,.store _ _ _,_,_,_,_⟩::_) _ _
      refine qN rfl 61 _ _ rfl w1.heap.size u.cs.toArray rfl rfl 61 Nd.zero.cs.toArray (At.new _ _ _) (by kernel_rfl) rfl hone ?_
      first | change wpList _ _ _ _ _ (zaD w1 u) | change Exit.then _ _ _ _ (zaD w1 u))
    | fail)
   go_quiet (fail)
   go_wp2_with fail
   go_ret
   have hsh:=zol bits q HBi.out hq4
   exact ⟨by rw[HV.out,HQ.out,xO,<-hsh];cases u.neg<;>cases (Go.bits .and .u8 ((bits:Int) / 2 ^ q) 1==1)<;>rfl,(OffF.of HBb.out).then (zbc (qT _ _) _),s,HPb.out.kept rfl rfl,fun z hz=>Or.inl hz⟩
  have hb8:=(zab hk8).1
  have h8:=zqh hk8
  clear hk8
  by_cases hk3:u.kind=3
  ·have HKd:=zqh hk3
   rw[hk3] at ck
   clear hk3 hb1 hb7 hb8
   have HC:Hid (Calls Tryz.prog 146 #[.pointer (some ⟨g,0,none⟩),.int .i64 id,.agg u.cs.toArray] (zaD w1 u) (zcZ ns bits g m s (.pointer (some ⟨gp,0,none⟩)) id (zaD w1 u))):=zqh (by
    have h1:=HNn.out
    have h2:=HI.out
    have h0:0<id:=by
     rcases (by have:=HKd.out;omega:u.kind=6\/(u.kind=3\/u.kind=4\/u.kind=5)) with q | q
     ·have:=zbT HF.out HI.out (Or.inl (HK.out.1.trans q));unfold zac at this;omega
     ·have:=(zaK HF.out HI.out (by rw[HK.out.1];exact q)).1;unfold zac at this;omega
    unfold zac at h2
    obtain ⟨k,hk⟩:∃k,n=k+1:=⟨n-1,by omega⟩
    exact zdz S bits k (hIH.out k hk.symm) id u (by omega) HAb.out HI.out HPb.out HFm.out HU.out (by have:=HKd.out;omega))
   have hcl:u.cs.length=8:=rfl
   go_wp2_with (first
    |(with_reducible show wpList _ _ _ (⟨none,.store _ _ _,_,_,_,_⟩::_) _ _
      refine qN rfl 61 _ _ rfl w1.heap.size u.cs.toArray rfl rfl 61 Nd.zero.cs.toArray (At.new _ _ _) (by kernel_rfl) rfl hone ?_
      first | change wpList _ _ _ _ _ (zaD w1 u) | change Exit.then _ _ _ _ (zaD w1 u))
    |(with_reducible show wpList _ _ _ (⟨_,.load 61 (.tmp 5),_,_,_,_⟩::_) _ _
      refine zaa (by rfl) 61 _ rfl w1.heap.size rfl 61 u.cs.toArray (0,0) _ HXb.out Tryz.underlying61 rfl (by rw[qO,Nd.cs_length];kernel_rfl) ?_)
    | fail)
   refine HC.out.mono ?_
   rintro e w5 ⟨rfl,ho5,s5,hp5,hs5⟩
   have HO5:=zqh ((OffF.of HBb.out:OffF (fun b=>b=m) w _).off ho5 (fun b z=>Or.inl z))
   have HP5:=zqh hp5
   have HS5:=zqh hs5
   clear ho5 hp5 hs5
   go_wp2_with fail
   go_ret
   exact ⟨rfl,HO5.out,s5,HP5.out,HS5.out⟩
  have hb3:=(zab hk3).1
  have h3:=zqh hk3
  clear hk3
  by_cases hk4:u.kind=4
  ·have HKd:=zqh hk4
   rw[hk4] at ck
   clear hk4 hb1 hb7 hb8 hb3
   have HC:Hid (Calls Tryz.prog 146 #[.pointer (some ⟨g,0,none⟩),.int .i64 id,.agg u.cs.toArray] (zaD w1 u) (zcZ ns bits g m s (.pointer (some ⟨gp,0,none⟩)) id (zaD w1 u))):=zqh (by
    have h1:=HNn.out
    have h2:=HI.out
    have h0:0<id:=by
     rcases (by have:=HKd.out;omega:u.kind=6\/(u.kind=3\/u.kind=4\/u.kind=5)) with q | q
     ·have:=zbT HF.out HI.out (Or.inl (HK.out.1.trans q));unfold zac at this;omega
     ·have:=(zaK HF.out HI.out (by rw[HK.out.1];exact q)).1;unfold zac at this;omega
    unfold zac at h2
    obtain ⟨k,hk⟩:∃k,n=k+1:=⟨n-1,by omega⟩
    exact zdz S bits k (hIH.out k hk.symm) id u (by omega) HAb.out HI.out HPb.out HFm.out HU.out (by have:=HKd.out;omega))
   have hcl:u.cs.length=8:=rfl
   go_wp2_with (first
    |(with_reducible show wpList _ _ _ (⟨none,.store _ _ _,_,_,_,_⟩::_) _ _
      refine qN rfl 61 _ _ rfl w1.heap.size u.cs.toArray rfl rfl 61 Nd.zero.cs.toArray (At.new _ _ _) (by kernel_rfl) rfl hone ?_
      first | change wpList _ _ _ _ _ (zaD w1 u) | change Exit.then _ _ _ _ (zaD w1 u))
    |(with_reducible show wpList _ _ _ (⟨_,.load 61 (.tmp 5),_,_,_,_⟩::_) _ _
      refine zaa (by rfl) 61 _ rfl w1.heap.size rfl 61 u.cs.toArray (0,0) _ HXb.out Tryz.underlying61 rfl (by rw[qO,Nd.cs_length];kernel_rfl) ?_)
    | fail)
   refine HC.out.mono ?_
   rintro e w5 ⟨rfl,ho5,s5,hp5,hs5⟩
   have HO5:=zqh ((OffF.of HBb.out:OffF (fun b=>b=m) w _).off ho5 (fun b z=>Or.inl z))
   have HP5:=zqh hp5
   have HS5:=zqh hs5
   clear ho5 hp5 hs5
   go_wp2_with fail
   go_ret
   exact ⟨rfl,HO5.out,s5,HP5.out,HS5.out⟩
  have hb4:=(zab hk4).1
  have h4:=zqh hk4
  clear hk4
  by_cases hk5:u.kind=5
  ·have HKd:=zqh hk5
   rw[hk5] at ck
   clear hk5 hb1 hb7 hb8 hb3 hb4
   have HC:Hid (Calls Tryz.prog 146 #[.pointer (some ⟨g,0,none⟩),.int .i64 id,.agg u.cs.toArray] (zaD w1 u) (zcZ ns bits g m s (.pointer (some ⟨gp,0,none⟩)) id (zaD w1 u))):=zqh (by
    have h1:=HNn.out
    have h2:=HI.out
    have h0:0<id:=by
     rcases (by have:=HKd.out;omega:u.kind=6\/(u.kind=3\/u.kind=4\/u.kind=5)) with q | q
     ·have:=zbT HF.out HI.out (Or.inl (HK.out.1.trans q));unfold zac at this;omega
     ·have:=(zaK HF.out HI.out (by rw[HK.out.1];exact q)).1;unfold zac at this;omega
    unfold zac at h2
    obtain ⟨k,hk⟩:∃k,n=k+1:=⟨n-1,by omega⟩
    exact zdz S bits k (hIH.out k hk.symm) id u (by omega) HAb.out HI.out HPb.out HFm.out HU.out (by have:=HKd.out;omega))
   have hcl:u.cs.length=8:=rfl
   go_wp2_with (first
    |(with_reducible show wpList _ _ _ (⟨none,.store _ _ _,_,_,_,_⟩::_) _ _
      refine qN rfl 61 _ _ rfl w1.heap.size u.cs.toArray rfl rfl 61 Nd.zero.cs.toArray (At.new _ _ _) (by kernel_rfl) rfl hone ?_
      first | change wpList _ _ _ _ _ (zaD w1 u) | change Exit.then _ _ _ _ (zaD w1 u))
    |(with_reducible show wpList _ _ _ (⟨_,.load 61 (.tmp 5),_,_,_,_⟩::_) _ _
      refine zaa (by rfl) 61 _ rfl w1.heap.size rfl 61 u.cs.toArray (0,0) _ HXb.out Tryz.underlying61 rfl (by rw[qO,Nd.cs_length];kernel_rfl) ?_)
    | fail)
   refine HC.out.mono ?_
   rintro e w5 ⟨rfl,ho5,s5,hp5,hs5⟩
   have HO5:=zqh ((OffF.of HBb.out:OffF (fun b=>b=m) w _).off ho5 (fun b z=>Or.inl z))
   have HP5:=zqh hp5
   have HS5:=zqh hs5
   clear ho5 hp5 hs5
   go_wp2_with fail
   go_ret
   exact ⟨rfl,HO5.out,s5,HP5.out,HS5.out⟩
  have hb5:=(zab hk5).1
  have h5:=zqh hk5
  clear hk5
  by_cases hk6:u.kind=6
  ·have HKd:=zqh hk6
   rw[hk6] at ck
   clear hk6 hb1 hb7 hb8 hb3 hb4 hb5
   have HC:Hid (Calls Tryz.prog 146 #[.pointer (some ⟨g,0,none⟩),.int .i64 id,.agg u.cs.toArray] (zaD w1 u) (zcZ ns bits g m s (.pointer (some ⟨gp,0,none⟩)) id (zaD w1 u))):=zqh (by
    have h1:=HNn.out
    have h2:=HI.out
    have h0:0<id:=by
     rcases (by have:=HKd.out;omega:u.kind=6\/(u.kind=3\/u.kind=4\/u.kind=5)) with q | q
     ·have:=zbT HF.out HI.out (Or.inl (HK.out.1.trans q));unfold zac at this;omega
     ·have:=(zaK HF.out HI.out (by rw[HK.out.1];exact q)).1;unfold zac at this;omega
    unfold zac at h2
    obtain ⟨k,hk⟩:∃k,n=k+1:=⟨n-1,by omega⟩
    exact zdz S bits k (hIH.out k hk.symm) id u (by omega) HAb.out HI.out HPb.out HFm.out HU.out (by have:=HKd.out;omega))
   have hcl:u.cs.length=8:=rfl
   go_wp2_with (first
    |(with_reducible show wpList _ _ _ (⟨none,.store _ _ _,_,_,_,_⟩::_) _ _
      refine qN rfl 61 _ _ rfl w1.heap.size u.cs.toArray rfl rfl 61 Nd.zero.cs.toArray (At.new _ _ _) (by kernel_rfl) rfl hone ?_
      first | change wpList _ _ _ _ _ (zaD w1 u) | change Exit.then _ _ _ _ (zaD w1 u))
    |(with_reducible show wpList _ _ _ (⟨_,.load 61 (.tmp 5),_,_,_,_⟩::_) _ _
      refine zaa (by rfl) 61 _ rfl w1.heap.size rfl 61 u.cs.toArray (0,0) _ HXb.out Tryz.underlying61 rfl (by rw[qO,Nd.cs_length];kernel_rfl) ?_)
    | fail)
   refine HC.out.mono ?_
   rintro e w5 ⟨rfl,ho5,s5,hp5,hs5⟩
   have HO5:=zqh ((OffF.of HBb.out:OffF (fun b=>b=m) w _).off ho5 (fun b z=>Or.inl z))
   have HP5:=zqh hp5
   have HS5:=zqh hs5
   clear ho5 hp5 hs5
   go_wp2_with fail
   go_ret
   exact ⟨rfl,HO5.out,s5,HP5.out,HS5.out⟩
  have hb6:=(zab hk6).1
  have h6:=zqh hk6
  clear hk6
  have HV:Hid (zan ns bits id=false):=zqh (by
   have:=HK.out.1
   rcases zh3 HF.out HI.out with q | q | q | q | q | q | q | q | q
   ·exact ztK HF.out bits HI.out q
   ·exact absurd (this.symm.trans q) h1.out
   ·exact ztM HF.out bits HI.out q
   ·exact absurd (this.symm.trans q) h3.out
   ·exact absurd (this.symm.trans q) h4.out
   ·exact absurd (this.symm.trans q) h5.out
   ·exact absurd (this.symm.trans q) h6.out
   ·exact absurd (this.symm.trans q) h7.out
   ·exact absurd (this.symm.trans q) h8.out)
  go_wp2_with (first
   |(with_reducible show wpList _ _ _ (⟨none,.store _ _ _,_,_,_,_⟩::_) _ _
     refine qN rfl 61 _ _ rfl w1.heap.size u.cs.toArray rfl rfl 61 Nd.zero.cs.toArray (At.new _ _ _) (by kernel_rfl) rfl hone ?_
     first | change wpList _ _ _ _ _ (zaD w1 u) | change Exit.then _ _ _ _ (zaD w1 u))
   | fail)
  go_ret
  exact ⟨by rw[HV.out];rfl,OffF.of HBb.out,s,HPb.out,fun z hz=>Or.inl hz⟩
 ·have hdx:decide (0<=id/\id<(ns.length:Int))=false:=qE hin
  have HO:Hid (zan ns bits id=false):=zqh (zpC hin)
  have HIn:=zqh hin
  clear hin
  go_enter Tryz.func103,Tryz.ntmps103
  go_wp2_with fail
  refine HN.out.mono ?_
  rintro e w1 ⟨u,rfl,_,hb1,hz⟩
  obtain rfl:=hz HIn.out
  rw[hdx]
  have HBb:=zqh (hb1.trans ((zaN w1 Nd.zero).mono hb1.size))
  have hone:=Nd.one Nd.zero
  have ck:(zaD w1 Nd.zero).cell? ⟨w1.heap.size,0,none⟩=some (.int .i64 0):=(Nd.cells (zbq w1 Nd.zero)).1
  clear hb1 hdx c0 hz
  go_wp2_with (first
   |(with_reducible show wpList _ _ _ (⟨none,.store _ _ _,_,_,_,_⟩::_) _ _
     refine qN rfl 61 _ _ rfl w1.heap.size Nd.zero.cs.toArray rfl rfl 61 Nd.zero.cs.toArray (At.new _ _ _) (by kernel_rfl) rfl hone ?_
     first | change wpList _ _ _ _ _ (zaD w1 Nd.zero) | change Exit.then _ _ _ _ (zaD w1 Nd.zero))
   | fail)
  go_ret
  exact ⟨by rw[HO.out];rfl,OffF.of HBb.out,s,HP.out.next HBb.out,fun z hz=>Or.inl hz⟩
theorem zlj (S:ArenaMid AA) (bits:Nat) (hbits:bits<256):∀n:Nat,zli AA bits n
 | 0=>zom S bits 0 hbits (zqh (fun k h=>absurd h (Nat.succ_ne_zero k)))
 | n+1=>zom S bits (n+1) hbits (zqh (fun k h=>(Nat.succ.inj h).symm▸zlj S bits hbits n))
theorem zvj (S:ArenaMid AA) (id:Int) (bits:Nat) {w:World} {a:Value} {ns:List Nd} {F:Nat->Prop} (h:AA w a ns F) (hid:I64 id) (hbits:bits<256) :
  Calls Tryz.prog 67 #[a,.int .i64 id,.int .u8 bits] w fun e w'=>e=.returned (.bool (zan ns bits id))/\Below w.heap.size w w':=by
 obtain ⟨gp,rfl⟩:=S.ptr h
 have hmm:=@run_makeMap Tryz.prog
 obtain ⟨w2,hw2⟩:∃w2,w2=(w.alloc (.map #[] 0)).alloc (.cells #[.pointer (some ⟨gp,0,none⟩),.int .u8 bits,.map (some w.heap.size)] 144):=⟨_,rfl⟩
 have hB1:Below w.heap.size w (w.alloc (.map #[] 0)):=zqb
 have HB2:Hid (Below w.heap.size w w2):=zqh (by rw[hw2];exact hB1.alloc hB1.size _)
 have hP:zcc w2 (.pointer (some ⟨gp,0,none⟩)) ns bits (w.heap.size+1) w.heap.size []:=by
  refine ⟨?_,?_,by omega,gO,fun z hz=>by cases hz⟩
  ·have:=At.new (w.alloc (.map #[] 0)) 144 #[.pointer (some ⟨gp,0,none⟩),.int .u8 bits,.map (some w.heap.size)]
   rw[qV] at this
   rw[hw2];exact this
  ·rw[hw2];exact (za1.made w _).kept (yL _ _ _ (by simp))
 have HN:=zqh (zlj S bits hbits id.toNat id zqn (S.next h HB2.out) hid hP (fun z=>by have:=S.low h _ z;omega))
 have HW2:=zqh hw2
 rw[hw2] at HN
 clear h hw2 hB1 hP
 go_enter Tryz.func67,Tryz.ntmps67
 go_wp2_with fail
 refine HN.out.mono ?_
 rw[<-HW2.out]
 rintro e w3 ⟨rfl,ho,_⟩
 have HB3:Hid (Below w.heap.size w w3):=zqh (HB2.out.trans (ho.below (fun b e=>by have e:b=w.heap.size:=e;omega) HB2.out.size))
 clear ho
 go_wp2_with fail
 go_ret
 exact ⟨rfl,HB3.out⟩
end
end Go.Proofs.YtdmodhnhldbpnaaGreat
