/- Joined: GnCat, NormNull, BuildM, BlT, GlT. -/
import Derived.Test.YtdmodhnhldbpnaaGreatMao
import Derived.Test.YtdmodhnhldbpnaaGreatMam
import Derived.Test.YtdmodhnhldbpnaaGreatMad
import Derived.Test.YtdmodhnhldbpnaaGreatMaf
import Derived.Test.YtdmodhnhldbpnaaGreatMaj
import Derived.Test.YtdmodhnhldbpnaaGreatMac
import Derived.Test.YtdmodhnhldbpnaaGreatMal
import Derived.Test.YtdmodhnhldbpnaaGreatAid
/- norm.Cat of any nodes of an arena that may get full: by recursion over the number of the first one. -/
set_option linter.unusedSimpArgs false
set_option linter.unusedVariables false
set_option maxHeartbeats 16000000
set_option maxRecDepth 100000
set_option linter.unusedSectionVars false
namespace Go.Proofs.YtdmodhnhldbpnaaGreat
section
open Go.RowKit
section
variable {AA:World->Value->List Nd->(Nat->Prop)->Prop}
theorem znv (S:ArenaAny AA) (n:Nat) (IH:zkL AA n) (x y:Int) (u:Nd) {w:World} {a:Value} {ns:List Nd} {F:Nat->Prop} {g:Nat} {mv:Option Nat} {V:List Int} (hn:x.toNat<=n+1) (h:AA w a ns F) (hx:zac ns x) (hy:zac ns y) (y0:kd ns y≠0) (y1:kd ns y≠1) (hg:za3 w a ns F g mv V) (k3:kd ns x=3) (hu:u=zaQ ns x.toNat) :
  Calls Tryz.prog 187 #[.pointer (some ⟨g,0,none⟩),.int .i64 x,.agg u.cs.toArray,.int .i64 y] w (zcd AA w a ns F x y g mv V):=by
 have hmx:=S.max h
 have hxI:I64 x:=by unfold zac at hx;unfold I64;omega
 have hyI:I64 y:=by unfold zac at hy;unfold I64;omega
 have HFi:=zqh (S.fine h)
 obtain ⟨⟨ia,la⟩,ib,lb⟩:=zaK HFi.out hx (Or.inl k3)
 have HKa:Hid (ka ns x=u.a):=zqh (by unfold ka;rw[hu])
 have HKb:Hid (kb ns x=u.b):=zqh (by unfold kb;rw[hu])
 have HFl:Hid (∀b,F b->b<w.heap.size):=zqh (S.low h)
 have HIa:=zqh ia
 have HIb:=zqh ib
 have HLt:Hid (ka ns x<x/\kb ns x<x):=zqh ⟨la,lb⟩
 have HNa:Hid ((ka ns x).toNat<=n/\(kb ns x).toNat<=n):=zqh (by
  have h1:=ia;have h2:=ib;unfold zac at h1 h2;omega)
 have HX:=zqh hx
 have HY:=zqh hy
 have HY0:=zqh y0
 have HY1:=zqh y1
 have HK3:=zqh k3
 have HB0:Hid (Below w.heap.size w (w.alloc (.cells u.cs.toArray 61))):=zqh (zqb)
 have HA0:=zqh h
 have HG0:=zqh hg
 have hgl:=hg.box.lt
 have hG:=hg.box.alloc (.cells u.cs.toArray 61)
 have hU:=At.new w 61 u.cs.toArray
 have c0:(w.alloc (.cells u.cs.toArray 61)).cell? ⟨g,0,none⟩=some a:=hG.cell 0
 have c1:(w.alloc (.cells u.cs.toArray 61)).cell? ⟨g,1,none⟩=some (.map mv):=hG.cell 1
 have hlk:=(hg.next HB0.out).look hxI
 have HIH:=zqh IH
 obtain ⟨gp,rfl⟩:=S.ptr h
 have hu5:u.cs[5]?=some (.int .i64 u.a):=rfl
 have hu6:u.cs[6]?=some (.int .i64 u.b):=rfl
 obtain ⟨W2,hW2⟩:∃W2,W2=(w.alloc (.cells u.cs.toArray 61)).alloc (.cells #[] 111):=⟨_,rfl⟩
 have HB2:Hid (Below w.heap.size w W2):=zqh (by rw[hW2];exact HB0.out.alloc (by simp) _)
 have HW2:=zqh hW2
 by_cases hs:x∈V
 ·rw[qD hs] at hlk
  have HS:=zqh hs
  clear IH hn h hx hy y0 y1 hg k3 hu ia la ib lb hW2 hs
  go_enter Tryz.func187,Tryz.ntmps187
  go_wp2_with fail
  go_ret
  rw[<-HW2.out]
  exact zcd.stay S.toArenaMid HA0.out HG0.out HB2.out HY.out ⟨znr HFi.out (HG0.out.vac x HS.out) HY.out,Or.inr (Or.inl ⟨rfl,HG0.out.vac x HS.out⟩)⟩
 rw[qE hs] at hlk
 have HS:=zqh hs
 have HA2:=zqh (S.next HA0.out HB2.out)
 have HG2:=zqh (hg.next HB2.out)
 have HU2:Hid (At W2 w.heap.size 61 u.cs.toArray):=zqh (by rw[hW2];exact hU.alloc _)
 have HI1:=zqh (HIH.out (kb ns x) y HNa.out.2 HA2.out HIb.out HY.out HY0.out HY1.out HG2.out)
 rw[hW2,HKb.out] at HI1
 clear IH hn h hx hy y0 y1 hg k3 hu ia la ib lb hW2 hs
 go_enter Tryz.func187,Tryz.ntmps187
 go_wp2_with fail
 refine HI1.out.mono ?_
 rw[<-HW2.out,<-HKb.out]
 rintro e w6 ⟨q,more1,F1,mv1,V1,rfl,g1,g2,g3,g4,g5,g6,g7⟩
 have HG6:=zqh g4
 have HU6:Hid (At w6 w.heap.size 61 u.cs.toArray):=zqh ((g3.block _ HU2.out.lt (fun z=>by
  rcases z with z | z | z
  ·have:=HFl.out _ z;omega
  ·omega
  ·have:=(HG0.out.mF _ z).2.2;omega)).trans HU2.out)
 have HO6:Hid (OffF (fun b=>F b\/b=g\/mv=some b) w w6):=zqh ((OffF.of HB2.out).off g3 (fun b z=>Or.inl z))
 have HF1:Hid (∀b,F1 b->F b\/w.heap.size<=b):=zqh (fun b z=>(g2 b z).imp id (fun c=>qH HB2.out.size c))
 have HM1:Hid (∀m,mv1=some m->mv=some m\/w.heap.size<=m):=zqh (fun m z=>(g5 m z).imp id (fun c=>qH HB2.out.size c))
 have HV1:Hid (∀z∈V1,z∈V\/z<x):=zqh (fun z hz=>(g6 z hz).imp id (fun c=>by have:=HLt.out;omega))
 have H1:=zqh g1
 have HU6lt:=HU6.out.lt
 rcases g7 with rfl | ⟨g5',g6'⟩
 ·clear g1 g2 g3 g4 g5 g6 c0 c1 hG hU hlk
  go_wp2_with fail
  go_ret
  exact ⟨-1,more1,F1,mv1,V1,rfl,H1.out,HF1.out,HO6.out,HG6.out,HM1.out,fun z hz=>(HV1.out z hz).imp id (fun c=>by omega),Or.inl rfl⟩
 have HFi1:=zqh (S.fine g1)
 have HKn:=zqh (znk S.toArenaMid q g1 g5')
 have hqn:¬q<0:=by unfold zac at g5';omega
 have hqd:decide (q<0)=false:=qE hqn
 have H5:=zqh g5'
 have H6:=zqh g6'
 clear g1 g2 g3 g4 g5 g6 g5' g6' c0 c1 hG hU hlk
 have c0:=HG6.out.box.cell 0
 have c1:=HG6.out.box.cell 1
 obtain ⟨u0,u1,u2,u3,u4,u5,u6,u7⟩:=Nd.cells HU6.out
 go_wp2_with fail
 refine HKn.out.mono ?_
 rintro e w7 ⟨rfl,hb7⟩
 have HA7:=zqh (S.next H1.out hb7)
 have HG7:=zqh (HG6.out.next hb7)
 have HU7:Hid (At w7 w.heap.size 61 u.cs.toArray):=zqh ((hb7.block _ HU6.out.lt).trans HU6.out)
 have HO7:Hid (OffF (fun b=>F b\/b=g\/mv=some b) w w7):=zqh (HO6.out.then hb7)
 have HS7:Hid (w.heap.size<=w7.heap.size):=zqh HO7.out.size
 clear hb7 c0 c1 u0 u1 u2 u3 u4 u5 u6 u7
 have c0:=HG7.out.box.cell 0
 have c1:=HG7.out.box.cell 1
 obtain ⟨u0,u1,u2,u3,u4,u5,u6,u7⟩:=Nd.cells HU7.out
 rw[<-HKa.out] at u5
 by_cases q0:kd (ns++more1) q=0
 ·have hq0b:(kd (ns++more1) q==0)=true:=by rw[q0];rfl
  have HQ0:=zqh q0
  clear q0
  go_wp2_with fail
  go_ret
  exact ⟨q,more1,F1,mv1,V1,rfl,HA7.out,HF1.out,HO7.out,HG7.out,HM1.out,fun z hz=>(HV1.out z hz).imp id (fun c=>by omega),Or.inr ⟨H5.out,zlV HFi.out HFi1.out HX.out HK3.out H5.out H6.out HQ0.out⟩⟩
 have HQ0:=zqh q0
 have hq0b:(kd (ns++more1) q==0)=false:=(zab q0).1
 have HQ1:Hid (kd (ns++more1) q≠1):=zqh (by
  rcases H6.out.2 with c | ⟨c,_⟩ | ⟨_,c⟩
  ·exact absurd c q0
  ·rw[c,zbt HY.out];exact HY1.out
  ·omega)
 have HI2:=zqh (HIH.out (ka ns x) q HNa.out.1 HA7.out (HIa.out.up more1) H5.out HQ0.out HQ1.out HG7.out)
 clear q0
 go_wp2_with fail
 refine HI2.out.mono ?_
 rintro e w8 ⟨r,more2,F2,mv2,V2,rfl,k1,k2,k4,k5,k6,k7,k8⟩
 have HO8:Hid (OffF (fun b=>F b\/b=g\/mv=some b) w w8):=zqh (HO7.out.off k4 (fun b z=>by
  rcases z with z | z | z
  ·exact (HF1.out b z).imp Or.inl id
  ·exact Or.inl (Or.inr (Or.inl z))
  ·exact (HM1.out b z).imp (fun c=>Or.inr (Or.inr c)) id))
 have HF2:Hid (∀b,F2 b->F b\/w.heap.size<=b):=zqh (fun b z=>by
  rcases k2 b z with c | c
  ·exact HF1.out b c
  ·exact Or.inr (qH HS7.out c))
 have HM2:Hid (∀m,mv2=some m->mv=some m\/w.heap.size<=m):=zqh (fun m z=>by
  rcases k6 m z with c | c
  ·exact HM1.out m c
  ·exact Or.inr (qH HS7.out c))
 have HV2:Hid (∀z∈V2,z∈V\/z<x):=zqh (fun z hz=>by
  rcases k7 z hz with c | c
  ·exact HV1.out z c
  ·exact Or.inr (by have:=HLt.out;omega))
 have HFi2:=zqh (S.fine k1)
 have HA8:=zqh k1
 have HG8:=zqh k5
 have HR:Hid (r=-1\/(zac ((ns++more1)++more2) r/\zpA ns x y ((ns++more1)++more2) r)):=zqh (k8.imp id (fun z=>⟨z.1,zr0 HFi.out HFi1.out HFi2.out HX.out HK3.out HY.out HY0.out H5.out z.1 H6.out HQ0.out z.2⟩))
 have HRn:Hid (∀W mv3 V3,OffF (fun b=>b=g\/mv2=some b) w8 W->za3 W (.pointer (some ⟨gp,0,none⟩)) ((ns++more1)++more2) F2 g mv3 V3->(∀m,mv3=some m->mv2=some m\/w8.heap.size<=m)->(∀z∈V3,z∈V2\/z=x)->zcd AA w (.pointer (some ⟨gp,0,none⟩)) ns F x y g mv V (.returned (.int .i64 r)) W):=zqh (fun W mv3 V3 ho hc hm hv=>by
  refine ⟨r,more1++more2,F2,mv3,V3,rfl,?_,HF2.out,HO8.out.off ho (fun b z=>?_),by rw[<-jQ];exact hc,fun m e=>?_,fun z hz=>?_,by rw[<-jQ];exact HR.out⟩
  ·rw[<-jQ]
   exact S.keep HA8.out (fun b hb=>ho.block b (S.low HA8.out b hb) (fun z=>by
    rcases z with rfl | z
    ·exact HG8.out.gF hb
    ·exact (HG8.out.mF b z).1 hb))
  ·rcases z with z | z
   ·exact Or.inl (Or.inr (Or.inl z))
   ·exact (HM2.out b z).imp (fun c=>Or.inr (Or.inr c)) id
  ·rcases hm m e with c | c
   ·exact HM2.out m c
   ·exact Or.inr (qH HO8.out.size c)
  ·rcases hv z hz with c | c
   ·exact (HV2.out z c).imp id (fun d=>by omega)
   ·exact Or.inr (by omega))
 by_cases hry:r=y
 ·subst hry
  have hrb:(r==r)=true:=by simp
  have HVx:Hid (Vac ((ns++more1)++more2) x):=zqh (by
   rcases HR.out with c | ⟨_,c⟩
   ·have:=HY.out;unfold zac at this;omega
   ·rcases c.2 with d | ⟨_,d⟩ | ⟨d,_⟩
    ·have e:=zbt (HY.out.up more1) more2
     rw[e,zbt HY.out] at d
     exact absurd d HY0.out
    ·exact (d.up more1).up more2
    ·omega)
  have hmx2:=S.max k1
  have HMk:=zqh (zuZ x hmx2 HG8.out HVx.out (fun z=>by
   rcases HV2.out x z with c | c
   ·exact HS.out c
   ·omega) (S.low k1))
  clear k1 k2 k4 k5 k6 k7 k8
  go_wp2_with fail
  refine HMk.out.mono ?_
  rintro e w9 ⟨rfl,mv3,m1,m2,m3⟩
  have HEnd:=zqh (HRn.out w9 mv3 _ m3 m1 m2 (fun z hz=>by
   rcases List.mem_cons.1 hz with c | c
   ·exact Or.inr c
   ·exact Or.inl c))
  clear m1 m2 m3
  go_wp2_with fail
  go_ret
  exact HEnd.out
 ·have hrb:=(zab hry).1
  have HEnd:=zqh (HRn.out w8 mv2 V2 (OffF.of (qT _ _)) HG8.out (fun m e=>Or.inl e) (fun z hz=>Or.inl hz))
  clear k1 k2 k4 k5 k6 k7 k8 hry
  go_wp2_with fail
  go_ret
  exact HEnd.out
theorem zkM (S:ArenaAny AA) (n:Nat) (hIH:Hid (∀m,m+1=n->zkL AA m)):zkL AA n:=by
  intro x y w a ns F g mv V hn h hx hy y0 y1 hg
  have hmx:=S.max h
  have hxI:I64 x:=by unfold zac at hx;unfold I64;omega
  have hyI:I64 y:=by unfold zac at hy;unfold I64;omega
  have HN:=zqh (S.nodeIn x h hxI)
  have HA:=zqh h
  have HX:=zqh hx
  have HY:=zqh hy
  have HY0:=zqh y0
  have HY1:=zqh y1
  have HFi:=zqh (S.fine h)
  have HNn:=zqh hn
  have HG:=zqh hg
  have hdx:decide (0<=x/\x<(ns.length:Int))=true:=qD hx
  obtain ⟨gp,rfl⟩:=S.ptr HA.out
  have c0:=HG.out.box.cell 0
  have hgl:=hg.box.lt
  clear h hx hy y0 y1 hn hg
  go_enter Tryz.func164,Tryz.ntmps164
  go_wp2_with fail
  refine HN.out.mono ?_
  rintro e w1 ⟨u,rfl,hu,hb1⟩
  have hu:=hu HX.out
  rw[hdx]
  have HU:=zqh hu
  have HKx:Hid (kd ns x=u.kind):=zqh (by unfold kd;rw[<-hu])
  have HBb:=zqh (hb1.trans ((zaN w1 u).mono hb1.size))
  have HXb:=zqh (zbq w1 u)
  have HAb:=zqh (S.next HA.out HBb.out)
  have HGb:=zqh (HG.out.next HBb.out)
  have ck:=(Nd.cells HXb.out).1
  clear hu hb1 hdx c0
  have c0:=HGb.out.box.cell 0
  by_cases x0:u.kind=0
  ·have HE:Hid (kd ns x=0):=zqh (by rw[HKx.out];exact x0)
   rw[x0] at ck
   clear x0
   go_wp2_with (first
   |(with_reducible show wpList _ _ _ (⟨none,.store _ _ _,_,_,_,_⟩::_) _ _
     refine qN rfl 61 _ _ rfl w1.heap.size u.cs.toArray rfl rfl 61 Nd.zero.cs.toArray (At.new _ _ _) (by kernel_rfl) rfl (Nd.one u) ?_
     first | change wpList _ _ _ _ _ (zaD w1 u) | change Exit.then _ _ _ _ (zaD w1 u))
   | fail)
   go_ret
   exact zcd.stay S.toArenaMid HA.out HG.out HBb.out HX.out ⟨znt HFi.out HX.out HE.out,Or.inl HE.out⟩
  have HKx0:Hid (kd ns x≠0):=zqh (by rw[HKx.out];exact x0)
  have x0b:=(zab x0).1
  clear x0
  by_cases x1:u.kind=1
  ·have HE:Hid (kd ns x=1):=zqh (by rw[HKx.out];exact x1)
   rw[x1] at ck x0b
   clear x1 x0b
   go_wp2_with (first
   |(with_reducible show wpList _ _ _ (⟨none,.store _ _ _,_,_,_,_⟩::_) _ _
     refine qN rfl 61 _ _ rfl w1.heap.size u.cs.toArray rfl rfl 61 Nd.zero.cs.toArray (At.new _ _ _) (by kernel_rfl) rfl (Nd.one u) ?_
     first | change wpList _ _ _ _ _ (zaD w1 u) | change Exit.then _ _ _ _ (zaD w1 u))
   | fail)
   go_ret
   exact zcd.stay S.toArenaMid HA.out HG.out HBb.out HY.out ⟨znr HFi.out (zns HFi.out HX.out HE.out) HY.out,Or.inr (Or.inl ⟨rfl,zns HFi.out HX.out HE.out⟩)⟩
  have HKx1:Hid (kd ns x≠1):=zqh (by rw[HKx.out];exact x1)
  have x1b:=(zab x1).1
  clear x1
  by_cases x3:u.kind=3
  ·have HKx3:Hid (kd ns x=3):=zqh (by rw[HKx.out];exact x3)
   have hcl:u.cs.length=8:=rfl
   have HCA:Hid (Calls Tryz.prog 187 #[.pointer (some ⟨g,0,none⟩),.int .i64 x,.agg u.cs.toArray,.int .i64 y] (zaD w1 u) (zcd AA (zaD w1 u) (.pointer (some ⟨gp,0,none⟩)) ns F x y g mv V)):=zqh (by
    obtain ⟨⟨ia,la⟩,_⟩:=zaK HFi.out HX.out (Or.inl HKx3.out)
    have h1:=HNn.out
    have h2:=HX.out
    unfold zac at ia h2
    obtain ⟨m,hm⟩:∃m,n=m+1:=⟨n-1,by omega⟩
    exact znv S m (hIH.out m hm.symm) x y u (by omega) HAb.out HX.out HY.out HY0.out HY1.out HGb.out HKx3.out HU.out)
   rw[x3] at ck x0b x1b
   clear x3 x0b x1b
   go_wp2_with (first
    |(with_reducible show wpList _ _ _ (⟨none,.store _ _ _,_,_,_,_⟩::_) _ _
      refine qN rfl 61 _ _ rfl w1.heap.size u.cs.toArray rfl rfl 61 Nd.zero.cs.toArray (At.new _ _ _) (by kernel_rfl) rfl (Nd.one u) ?_
      first | change wpList _ _ _ _ _ (zaD w1 u) | change Exit.then _ _ _ _ (zaD w1 u))
    |(with_reducible show wpList _ _ _ (⟨_,.load 61 (.tmp 7),_,_,_,_⟩::_) _ _
      refine zaa (by rfl) 61 _ rfl w1.heap.size rfl 61 u.cs.toArray (0,0) _ HXb.out Tryz.underlying61 rfl (by rw[qO,Nd.cs_length];kernel_rfl) ?_)
    | fail)
   refine HCA.out.mono ?_
   rintro e w5 gr
   obtain ⟨r,_,_,_,_,rfl,_⟩:=id gr
   have HGr:=zqh (gr.from HBb.out)
   clear gr
   go_wp2_with fail
   go_ret
   exact HGr.out
  ·have HKx3:Hid (kd ns x≠3):=zqh (by rw[HKx.out];exact x3)
   have x3b:=(zab x3).1
   clear x3
   have HP:=zqh (zqQ S ⟨3,zbn,x,y,false⟩ HAb.out (zcb _ _ _ _ (by unfold I64;omega) hxI hyI) (zlU (Or.inl rfl) HX.out HY.out))
   go_wp2_with (first
   |(with_reducible show wpList _ _ _ (⟨none,.store _ _ _,_,_,_,_⟩::_) _ _
     refine qN rfl 61 _ _ rfl w1.heap.size u.cs.toArray rfl rfl 61 Nd.zero.cs.toArray (At.new _ _ _) (by kernel_rfl) rfl (Nd.one u) ?_
     first | change wpList _ _ _ _ _ (zaD w1 u) | change Exit.then _ _ _ _ (zaD w1 u))
   | fail)
   refine HP.out.mono ?_
   rintro e w5 gr
   obtain ⟨r,_,_,rfl,_⟩:=id gr
   have HGr:Hid (zcd AA w (.pointer (some ⟨gp,0,none⟩)) ns F x y g mv V (.returned (.int .i64 r)) w5):=zqh (by
    obtain ⟨r',more,F',g0,g1,g2,g3,g4⟩:=gr
    injection g0 with g0
    injection g0 with _ g0
    subst g0
    refine zcd.from ?_ HBb.out
    exact ⟨r,more,F',mv,V,rfl,g1,g2,⟨g3.os,g3.tape,g3.output,g3.size,fun b hb hn=>g3.block b hb (fun z=>hn (Or.inl z))⟩,HGb.out.off g3 g2 more,fun m e=>Or.inl e,fun z hz=>Or.inl hz,g4.imp id (fun z=>⟨z.1,zpB HFi.out (S.fine g1) HX.out HY.out z.1 z.2⟩)⟩)
   clear gr
   go_wp2_with fail
   go_ret
   exact HGr.out
theorem zqT (S:ArenaAny AA):∀n:Nat,zkL AA n
 | 0=>zkM S 0 (zqh (fun m h=>absurd h (Nat.succ_ne_zero m)))
 | n+1=>zkM S (n+1) (zqh (fun m h=>(Nat.succ.inj h).symm▸zqT S n))
theorem zvz (S:ArenaAny AA) (x y:Int) {w:World} {a:Value} {ns:List Nd} {F:Nat->Prop} (h:AA w a ns F) (hx:zac ns x) (hy:zac ns y) :
  Calls Tryz.prog 123 #[a,.int .i64 x,.int .i64 y] w (Got AA w a ns F fun ms r=>zhC ns x y ms r):=by
 have hmx:=S.max h
 have hxI:I64 x:=by unfold zac at hx;unfold I64;omega
 have hyI:I64 y:=by unfold zac at hy;unfold I64;omega
 have HX:=zqh hx
 have HY:=zqh hy
 have HFi:=zqh (S.fine h)
 have HB:Hid (Below w.heap.size w (w.alloc (.cells #[.int .i64 x,.int .i64 y] 3))):=zqh (zqb)
 have HA0:=zqh h
 have HA:=zqh (S.next h HB.out)
 have HT:Hid (Calls Tryz.prog 124 #[a,.slice (some ⟨w.heap.size,0,none⟩) 2 2] (w.alloc (.cells #[.int .i64 x,.int .i64 y] 3)) fun e w'=>e=.returned (.bool true)/\w'=w.alloc (.cells #[.int .i64 x,.int .i64 y] 3)):=zqh (zkD S.toArenaMid [x,y] HA.out (zgl _ _ _ _) (by simp) (fun z hz=>by simp at hz;rcases hz with rfl | rfl;exact hx;exact hy))
 have HKy:=zqh (znk S.toArenaMid y HA.out hy)
 obtain ⟨gp,rfl⟩:=S.ptr h
 clear h hx hy
 go_enter Tryz.func123,Tryz.ntmps123
 go_wp2_with fail
 refine HT.out.mono ?_
 rintro e w1 ⟨rfl,rfl⟩
 go_wp2_with fail
 refine HKy.out.mono ?_
 rintro e w1 ⟨rfl,hb1⟩
 have HB1:=zqh (HB.out.trans (hb1.mono HB.out.size))
 have HA1:=zqh (S.next HA.out hb1)
 clear hb1
 by_cases y1:kd ns y=1
 ·have hyb:(kd ns y==1)=true:=by rw[y1];rfl
  have HE:=zqh y1
  clear y1
  go_wp2_with fail
  go_ret
  exact Got.stay S.toArenaMid HA0.out HB1.out HX.out (zrZ HFi.out HX.out (zns HFi.out HY.out HE.out))
 have HY1:=zqh y1
 have y1b:=(zab y1).1
 have HKy2:=zqh (znk S.toArenaMid y HA1.out HY.out)
 clear y1
 go_wp2_with fail
 refine HKy2.out.mono ?_
 rintro e w2 ⟨rfl,hb2⟩
 have HB2:=zqh (HB1.out.trans (hb2.mono HB1.out.size))
 have HA2:=zqh (S.next HA1.out hb2)
 clear hb2
 by_cases y0:kd ns y=0
 ·have hyb:(kd ns y==0)=true:=by rw[y0];rfl
  have HE:=zqh y0
  clear y0
  go_wp2_with fail
  go_ret
  exact Got.stay S.toArenaMid HA0.out HB2.out HY.out (znu HFi.out HY.out HE.out)
 have HY0:=zqh y0
 have y0b:=(zab y0).1
 clear y0
 obtain ⟨w3,hw3⟩:∃w3,w3=w2.alloc (.cells #[.pointer (some ⟨gp,0,none⟩),.map none] 195):=⟨_,rfl⟩
 have HB3:Hid (Below w.heap.size w w3):=zqh (by rw[hw3];exact HB2.out.alloc HB2.out.size _)
 have HA3:=zqh (S.next HA0.out HB3.out)
 have HG3:Hid (At w3 w2.heap.size 195 #[.pointer (some ⟨gp,0,none⟩),.map none]):=zqh (by rw[hw3];exact At.new _ _ _)
 have HCh:Hid (za3 w3 (.pointer (some ⟨gp,0,none⟩)) ns F w2.heap.size none []):=zqh ⟨HG3.out,(fun x hx=>by cases hx),gO,Or.inl ⟨rfl,rfl⟩,(fun z=>by have:=S.low HA2.out _ z;omega),(fun m e=>by cases e)⟩
 have HSz2:Hid (w.heap.size<=w2.heap.size):=zqh HB2.out.size
 have HI:=zqh (zqT S x.toNat x y zqn HA3.out HX.out HY.out HY0.out HY1.out HCh.out)
 have HW3:=zqh hw3
 rw[hw3] at HI
 clear hw3
 go_wp2_with fail
 refine HI.out.mono ?_
 rw[<-HW3.out]
 rintro e w5 gr
 obtain ⟨r,_,_,_,_,rfl,_⟩:=id gr
 have HGr:Hid (Got AA w (.pointer (some ⟨gp,0,none⟩)) ns F (fun ms r=>zhC ns x y ms r) (.returned (.int .i64 r)) w5):=zqh (by
  obtain ⟨r',more,F',mv',V',g0,g1,g2,g3,g4,g5,g6,g7⟩:=gr.from HB3.out
  refine ⟨r',more,F',g0,g1,g2,⟨g3.os,g3.tape,g3.output,g3.size,fun b hb hn=>g3.block b hb (fun z=>?_)⟩,g7.imp id (fun z=>⟨z.1,z.2.1⟩)⟩
  rcases z with z | z | z
  ·exact hn z
  ·have:=HSz2.out;omega
  ·cases z)
 clear gr
 go_wp2_with fail
 go_ret
 exact HGr.out
end
end

section
open Go.RowKit
theorem zbS {ns:List Nd} {bits:Nat} {x:Int} (hx:zac ns x):zan ns bits x=zai [] [bits] ns x 0 0:=by
 unfold zan
 rw[qD (show 0<=x/\x<(ns.length:Int) from hx),jS]
theorem zpC {ns:List Nd} {bits:Nat} {x:Int} (hx:¬zac ns x):zan ns bits x=false:=by
 unfold zan
 rw[qE (show ¬(0<=x/\x<(ns.length:Int)) from hx),yC]
section
variable {ns:List Nd} (hf:zaA ns) (bits:Nat) {x:Int} (hx:zac ns x)
include hf hx
theorem ztK (k:kd ns x=0):zan ns bits x=false:=by rw[zbS hx,zlC hf hx k];rfl
theorem ztL (k:kd ns x=1):zan ns bits x=true:=by rw[zbS hx,zkt hf hx k];rfl
theorem ztM (k:kd ns x=2):zan ns bits x=false:=by rw[zbS hx,zb8 hf hx k];rfl
theorem zqU (k:kd ns x=3):zan ns bits x=(zan ns bits (ka ns x)&&zan ns bits (kb ns x)):=by
 obtain ⟨⟨a0,_⟩,b0,_⟩:=zaK hf hx (Or.inl k)
 rw[zbS hx,zbS a0,zbS b0,zh4 hf hx k]
 refine zbU ?_
 rw[zao,qR]
 constructor
 ·rintro ⟨m,m0,_,_,h1,h2⟩
  have m0:m<1:=m0
  obtain rfl:m=0:=by omega
  exact ⟨h1,h2⟩
 ·rintro ⟨h1,h2⟩
  exact ⟨0,xV _,qL _,qL _,h1,h2⟩
theorem zqV (k:kd ns x=4):zan ns bits x=(zan ns bits (ka ns x)||zan ns bits (kb ns x)):=by
 obtain ⟨⟨a0,_⟩,b0,_⟩:=zaK hf hx (by omega)
 rw[zbS hx,zbS a0,zbS b0,ztd hf hx k]
theorem zqW (k:kd ns x=5):zan ns bits x=(zan ns bits (ka ns x)&&zan ns bits (kb ns x)):=by
 obtain ⟨⟨a0,_⟩,b0,_⟩:=zaK hf hx (by omega)
 rw[zbS hx,zbS a0,zbS b0,zlD hf hx k]
theorem zqX (k:kd ns x=6):zan ns bits x=!zan ns bits (ka ns x):=by
 rw[zbS hx,zbS (zbT hf hx (Or.inl k)).1,ziI hf hx k]
 unfold zaW
 rw[qD (qL 0),jS]
theorem ztN (k:kd ns x=7):zan ns bits x=true:=by
 rw[zbS hx,zgC hf hx k]
 exact ze0 _ _ _ _
theorem ztO (k:kd ns x=8):zan ns bits x=(decide (bits >>> (ka ns x).toNat % 2=1) != (zaQ ns x.toNat).neg):=by
 rw[zbS hx,zhw hf hx k]
 unfold zoT
 rw[qD rfl,jS]
 rfl
end
def zlW (f:Tbl) (n:Nat):Nat->Tbl->Tbl
 | 0,g=>g
 | m+1,g=>zaF f (zlW f n m g) n
def zmr (f:Tbl) (n:Nat):Nat->Tbl
 | 0=>eqF
 | m+1=>fun i j=>eqF i j||zaF f (zmr f n m) n i j
theorem zqY (f:Tbl) (n:Nat):∀(m:Nat) (g:Tbl),Eqv n (zlW f n m (zaF f g n)) (zaF f (zlW f n m g) n)
 | 0,_=>Eqv.refl _ _
 | m+1,g=>zbM (Eqv.refl _ _) (zqY f n m g)
theorem zgM (f:Tbl) (n:Nat):∀(m:Nat) (g:Tbl),(∀i j,g i j=true->i<=j)->Eqv n (zaF (zeg f n m) g n) (zlW f n m g)
 | 0,g,hg=>zdm hg
 | m+1,g,hg=>by
  show Eqv n (zaF (zaF (zeg f n m) f n) g n) (zaF f (zlW f n m g) n)
  exact ((zfB n _ _ _).trans (zgM f n m (zaF f g n) (fun i j h=>zdK h))).trans (zqY f n m g)
theorem znw (f:Tbl) (n:Nat):∀(m i j:Nat),zmr f n m i j=true->i<=j
 | 0,i,j,h=>by have:=(zaR _ _).1 h;omega
 | m+1,i,j,h=>by
  have h:(eqF i j||zaF f (zmr f n m) n i j)=true:=h
  rw[yS] at h
  rcases h with h | h
  ·have:=(zaR _ _).1 h;omega
  ·exact zdK h
theorem zlX (f:Tbl) (n l:Nat):Eqv n (zlW f n l (zbp f n n)) (zcI f n l (-1)):=by
 show Eqv n _ (if (-1:Int)<0 then zaF (zeg f n l) (zbp f n n) n else _)
 rw[if_pos (by omega)]
 exact (zgM f n l _ (fun i j h=>zqI n h)).symm
theorem zih (f:Tbl) (n:Nat):∀(m i j:Nat),zeg f n m i j=true->i<=j
 | 0,i,j,h=>by have:=(zaR _ _).1 h;omega
 | m+1,i,j,h=>zdK h
theorem zi1 (f:Tbl) (n:Nat) (m:Nat):Eqv n (zeg f n (m+1)) (zaF f (zeg f n m) n):=by
 have h1:Eqv n (zeg f n (m+1)) (zaF (zeg f n (m+1)) eqF n):=((zbD n _).symm.trans (zdm (zih f n (m+1)))).symm
 have h2:Eqv n (zaF (zeg f n m) eqF n) (zeg f n m):=(zbD n _).symm.trans (zdm (zih f n m))
 refine h1.trans ((zgM f n (m+1) eqF (fun i j h=>by have:=(zaR _ _).1 h;omega)).trans ?_)
 exact zbM (Eqv.refl _ _) ((zgM f n m eqF (fun i j h=>by have:=(zaR _ _).1 h;omega)).symm.trans h2)
theorem zii (f:Tbl) (n:Nat):∀(m i j:Nat),i<n->j<n->(zmr f n m i j=true↔∃q,q<=m/\zeg f n q i j=true)
 | 0,i,j,hi,hj=>⟨fun h=>⟨0,qL _,h⟩,fun ⟨q,hq,h⟩=>by
  have e:q=0:=Nat.le_zero.1 hq
  rw[e] at h
  exact h⟩
 | m+1,i,j,hi,hj=>by
  show (eqF i j||zaF f (zmr f n m) n i j)=true↔_
  rw[yS,zao]
  constructor
  ·rintro (h | ⟨c,c0,c1,c2,h1,h2⟩)
   ·exact ⟨0,qK _,h⟩
   ·obtain ⟨q,hq,h3⟩:=(zii f n m c j c0 hj).1 h2
    exact ⟨q+1,by omega,by rw[zi1 f n q i j hi hj,zao];exact ⟨c,c0,c1,c2,h1,h3⟩⟩
  ·rintro ⟨q,hq,h⟩
   cases q with
   | zero=>exact Or.inl h
   | succ q =>
    rw[zi1 f n q i j hi hj,zao] at h
    obtain ⟨c,c0,c1,c2,h1,h2⟩:=h
    exact Or.inr ⟨c,c0,c1,c2,h1,(zii f n m c j c0 hj).2 ⟨q,by omega,h2⟩⟩
theorem znx (f:Tbl) (n l:Nat):∀(m i j:Nat),zmD f n l m i j=true↔∃q,q<=m/\zeg f n (l+q) i j=true
 | 0,i,j=>⟨fun h=>⟨0,qL _,h⟩,fun ⟨q,hq,h⟩=>by
  have e:q=0:=Nat.le_zero.1 hq
  rw[e] at h
  exact h⟩
 | m+1,i,j=>by
  show (zmD f n l m i j||zeg f n (l+(m+1)) i j)=true↔_
  rw[yS,znx f n l m i j]
  constructor
  ·rintro (⟨q,hq,h⟩ | h)
   ·exact ⟨q,by omega,h⟩
   ·exact ⟨m+1,qL _,h⟩
  ·rintro ⟨q,hq,h⟩
   by_cases e:q=m+1
   ·subst e;exact Or.inr h
   ·exact Or.inl ⟨q,by omega,h⟩
theorem zj1 (f:Tbl) (n l:Nat):∀(q:Nat),Eqv n (zaF (zeg f n l) (zeg f n q) n) (zeg f n (l+q))
 | 0=>(zbD n _).symm.trans (zdm (zih f n l))
 | q+1=>by
  show Eqv n (zaF (zeg f n l) (zaF (zeg f n q) f n) n) (zaF (zeg f n (l+q)) f n)
  exact (zfB n _ _ _).symm.trans (zbM (zj1 f n l q) (Eqv.refl _ _))
theorem zi2 (f:Tbl) (n l m:Nat):Eqv n (zlW f n l (zmr f n m)) (zmD f n l m):=fun i j hi hj=>zbU (by
 rw[<-zgM f n l (zmr f n m) (znw f n m) i j hi hj,zao,znx]
 constructor
 ·rintro ⟨c,c0,c1,c2,h1,h2⟩
  obtain ⟨q,hq,h3⟩:=(zii f n m c j c0 hj).1 h2
  exact ⟨q,hq,by rw[<-zj1 f n l q i j hi hj,zao];exact ⟨c,c0,c1,c2,h1,h3⟩⟩
 ·rintro ⟨q,hq,h⟩
  rw[<-zj1 f n l q i j hi hj,zao] at h
  obtain ⟨c,c0,c1,c2,h1,h2⟩:=h
  exact ⟨c,c0,c1,c2,h1,(zii f n m c j c0 hj).2 ⟨q,hq,h2⟩⟩)
end

section
open Go.RowKit
theorem zgN {n:Nat}:∀{fs gs:List Tbl},fs.length=gs.length->(∀i (h1:i<fs.length) (h2:i<gs.length),Eqv n fs[i] gs[i])->Eqv n (fs.foldr (fun f g=>zaF f g n) eqF) (gs.foldr (fun f g=>zaF f g n) eqF)
 | [],[],_,_=>Eqv.refl _ _
 | [],_::_,h,_=>by cases h
 | _::_,[],h,_=>by cases h
 | f::fs,g::gs,h,hi=>zbM (hi 0 (by simp) (by simp)) (zgN (by simpa using h) (fun i h1 h2=>by have:=hi (i+1) (by simp;omega) (by simp;omega);simpa using this))
theorem zgO {n:Nat}:∀(fs:List Tbl) (g:Tbl),(∀i j,g i j=true->i<=j)->Eqv n (fs.foldl (fun f g=>zaF f g n) g) (zaF g (fs.foldr (fun f g=>zaF f g n) eqF) n)
 | [],g,hg=>(zbD n _).symm.trans (zdm hg) |>.symm
 | f::fs,g,hg=>(zgO fs (zaF g f n) (fun i j h=>zdK h)).trans (zfB n _ _ _)
theorem zny {n:Nat} (fs:List Tbl):Eqv n (fs.foldl (fun f g=>zaF f g n) eqF) (fs.foldr (fun f g=>zaF f g n) eqF):=by
 refine (zgO fs eqF (fun i j h=>by have:=(zaR _ _).1 h;omega)).trans (zdm (fun i j h=>?_))
 cases fs with
 | nil=>have:=(zaR _ _).1 h;omega
 | cons f fs=>exact zdK h
theorem zkN:∀(fs:List Tbl) (g:Tbl) (i j:Nat),fs.foldl (fun f g i j=>f i j||g i j) g i j=(g i j||fs.any (fun f=>f i j))
 | [],g,i,j=>by simp
 | f::fs,g,i,j=>by rw[xS,zkN fs];simp[Bool.or_assoc]
theorem zi3:∀(fs:List Tbl) (g:Tbl) (i j:Nat),fs.foldl (fun f g i j=>f i j&&g i j) g i j=(g i j&&fs.all (fun f=>f i j))
 | [],g,i,j=>by simp
 | f::fs,g,i,j=>by rw[xS,zi3 fs];simp[Bool.and_assoc]
section
variable {ns:List Nd} (hc:Canon ns)
include hc
variable {k:Int} (hk:k=4\/k=5)
include hk
end
end

section
open Go.RowKit
variable {D:List Nat->List Nat->Prop} {u:Value}
def zb4 (D:List Nat->List Nat->Prop) (ns:List Nd) (r:Int) (f:List Nat->Tbl):Prop:=∀l bits:List Nat,(∀b∈l,b<256)->l.length<=8->D l bits->Eqv (l.length+1) (zai l bits ns r) (f l)
theorem zb4.up {ns:List Nd} {r:Int} {f:List Nat->Tbl} (h:zb4 D ns r f) (hr:zac ns r) (more:List Nd):zb4 D (ns++more) r f:=fun l bits hb hl hd=>by
 rw[zav l bits more hr]
 exact h l bits hb hl hd
def zoA (D:List Nat->List Nat->Prop) (ns:List Nd) (k:Nat) (xs:List Int) (ps:List Tr):Prop:=xs.length=ps.length/\(∀x∈xs,zac ns x)/\∀(i:Nat) (h1:i<xs.length) (h2:i<ps.length),zb4 D ns xs[i] (fun l=>zae l k ps[i])
theorem zoA.up {ns:List Nd} {k:Nat} {xs:List Int} {ps:List Tr} (h:zoA D ns k xs ps) (more:List Nd):zoA D (ns++more) k xs ps :=
 ⟨h.1,fun x hx=>(h.2.1 x hx).up more,fun i h1 h2=>(h.2.2 i h1 h2).up (h.2.1 _ (qG h1)) more⟩
section
variable {ns:List Nd} (hc:Canon ns)
include hc
omit hc in
theorem zhD {k n:Nat} {xs:List Int} {ps:List Tr} {l bits:List Nat} (ha:zoA D ns k xs ps) (hb:∀b∈l,b<256) (hl:l.length<=8) (hd:D l bits) {i j:Nat} (hi:i<l.length+1) (hj:j<l.length+1):xs.any (fun x=>zai l bits ns x i j)=(ps.map (zae l k)).any (fun f=>f i j)/\xs.all (fun x=>zai l bits ns x i j)=(ps.map (zae l k)).all (fun f=>f i j):=by
 have e:xs.map (fun x=>zai l bits ns x i j)=(ps.map (zae l k)).map (fun f=>f i j):=by
  apply List.ext_getElem
  ·rw[qS,qS,qS];exact ha.1
  ·intro m h1 h2
   rw[kV,kV,kV]
   rw[qS] at h1
   exact ha.2.2 m h1 (by rw[<-ha.1];exact h1) l bits hb hl hd i j hi hj
 have e1:=congrArg (fun m:List Bool=>m.any id) e
 have e2:=congrArg (fun m:List Bool=>m.all id) e
 simp only[List.any_map,List.all_map] at e1 e2
 exact ⟨by simpa [Function.comp_def] using e1,by simpa [Function.comp_def] using e2⟩
end
end

section
open Go.RowKit
variable {D:List Nat->List Nat->Prop}
section
variable {ns:List Nd} (hf:zaA ns)
include hf
theorem zr1 {r:Int} (hr:zac ns r) (k:kd ns r=0):zb4 D ns r (fun _=>noF):=fun l bits _ _ _=>by rw[zlC hf hr k];exact Eqv.refl _ _
theorem zkO {r:Int} (hr:zac ns r) (k:kd ns r=1):zb4 D ns r (fun _=>eqF):=fun l bits _ _ _=>by rw[zkt hf hr k];exact Eqv.refl _ _
theorem zpD {r:Int} {s:St} (hr:zac ns r) (h:(s.list.length=0/\kd ns r=0)\/(s.list.length≠0/\zaQ ns r.toNat=⟨2,s,0,0,false⟩)):zb4 D ns r (fun l=>zbL s l):=fun l bits hb _ _=>by
 rcases h with ⟨h0,k⟩ | ⟨_,k⟩
 ·rw[zlC hf hr k]
  intro i j hi hj
  refine Eq.symm ?_
  show zbL s l i j=false
  unfold zbL
  by_cases e:j=i+1/\i<l.length
  ·rw[qD e,jS]
   have hlt:=e.2
   refine ze8.1 h0 _ ?_
   rw[qI hlt]
   exact hb _ (qG hlt)
  ·rw[qE e,yC]
 ·have k2:kd ns r=2:=by unfold kd;rw[k]
  rw[zb8 hf hr k2,k]
  exact Eqv.refl _ _
theorem ztP {x r:Int} {f:List Nat->Tbl} (hx:zac ns x) (h:zqH ns x r) (hx2:zb4 D ns x f):zb4 D ns r (fun l=>zaW (f l)):=fun l bits hb hl hd i j hi hj=>by
 rw[zlE hf hx h i j]
 unfold zaW
 rw[hx2 l bits hb hl hd i j hi hj]
theorem zr2 {x r:Int} {f:List Nat->Tbl} (hx:zac ns x) (h:ziH ns x r) (hx2:zb4 D ns x f):zb4 D ns r (fun l=>zbp (f l) (l.length+1) (l.length+1)):=fun l bits hb hl hd =>
 (starR_table hf hx h).trans (zgA (hx2 l bits hb hl hd) _)
end
def zhE (ns:List Nd) (xs:List Int) (r:Int):Prop:=(∀x∈xs,zac ns x)/\∀l bits:List Nat,Eqv (l.length+1) (zai l bits ns r) (xs.foldr (fun x g=>zaF (zai l bits ns x) g (l.length+1)) eqF)
theorem zhE.nil {ns:List Nd} (hf:zaA ns) {r:Int} (hr:zac ns r) (k:kd ns r=1):zhE ns [] r:=⟨fun x h=>absurd h xK,fun l bits=>by rw[zkt hf hr k];exact Eqv.refl _ _⟩
theorem zhE.one {ns:List Nd} (hf:zaA ns) {x:Int} (hx:zac ns x):zhE ns [x] x:=⟨fun y h=>by rw[List.mem_singleton.1 h];exact hx,fun l bits=>by
 show Eqv _ _ (zaF (zai l bits ns x) eqF (l.length+1))
 exact ((zbD (l.length+1) _).symm.trans (zdm (fun i j q=>zh5 hf _ x zqn hx i j q))).symm⟩
theorem zkP {ns more:List Nd} {l bits:List Nat} {n:Nat}:∀{xs:List Int},(∀x∈xs,zac ns x)->xs.foldr (fun x g=>zaF (zai l bits (ns++more) x) g n) eqF=xs.foldr (fun x g=>zaF (zai l bits ns x) g n) eqF
 | [],_=>rfl
 | x::xs,h=>by
  rw[List.foldr_cons,List.foldr_cons,zkP (fun y hy=>h y (qX _ hy)),zav l bits more (h x (by simp))]
theorem zhE.cons {ns more:List Nd} {x q r:Int} {xs:List Int} (hx:zac ns x) (hc:zhC ns x q (ns++more) r) (h:zhE ns xs q):zhE (ns++more) (x::xs) r:=⟨fun y hy=>by
 rcases List.mem_cons.1 hy with rfl | hy
 ·exact hx.up more
 ·exact (h.1 y hy).up more,fun l bits i j hi hj=>by
 rw[hc l bits i j (by omega),List.foldr_cons,zkP h.1,zav l bits more hx]
 exact zbM (Eqv.refl _ _) (h.2 l bits) i j hi hj⟩
theorem ztQ {ns:List Nd} {k:Nat} {xs:List Int} {ps:List Tr} {r:Int} (h:zhE ns xs r) (ha:zoA D ns k xs ps):zb4 D ns r (fun l=>(ps.map (zae l k)).foldl (fun f g=>zaF f g (l.length+1)) eqF):=fun l bits hb hl hd=>by
 refine (h.2 l bits).trans (Eqv.trans ?_ (zny _).symm)
 have e:∀ys:List Int,ys.foldr (fun x g=>zaF (zai l bits ns x) g (l.length+1)) eqF=(ys.map (zai l bits ns)).foldr (fun f g=>zaF f g (l.length+1)) eqF:=fun ys=>by rw[List.foldr_map]
 rw[e]
 refine zgN (by rw[qS,qS];exact ha.1) (fun i h1 h2=>?_)
 rw[kV,kV]
 rw[qS] at h1 h2
 exact ha.2.2 i h1 h2 l bits hb hl hd
theorem ztR {ns:List Nd} (hn:zaA ns) {x z r:Int} {lo:Nat} {f g:List Nat->Tbl} (h:zhE ns (List.replicate lo x++[z]) r) (hf:zb4 D ns x f) (hg:zb4 D ns z g):zb4 D ns r (fun l=>zlW (f l) (l.length+1) lo (g l)):=fun l bits hb hl hd=>by
 refine (h.2 l bits).trans ?_
 have hz:zac ns z:=h.1 z (by simp)
 clear h
 induction lo with
 | zero =>
  show Eqv _ (zaF (zai l bits ns z) eqF (l.length+1)) (g l)
  exact ((zbD (l.length+1) _).symm.trans (zdm (fun i j q=>zh5 hn _ z zqn hz i j q))).trans (hg l bits hb hl hd)
 | succ lo ih=>exact zbM (hf l bits hb hl hd) ih
theorem ztS {ns:List Nd} {x r:Int} {lo:Nat} {f:List Nat->Tbl} (h:zhE ns (List.replicate lo x) r) (hf:lo=0\/zb4 D ns x f):zb4 D ns r (fun l=>zlW (f l) (l.length+1) lo eqF):=fun l bits hb hl hd=>by
 refine (h.2 l bits).trans ?_
 clear h
 induction lo with
 | zero=>exact Eqv.refl _ _
 | succ lo ih =>
  rcases hf with h0 | hf
  ·omega
  ·exact zbM (hf l bits hb hl hd) (ih (Or.inr hf))
theorem znz {ns more:List Nd} {k:Int} {xs:List Int} {r:Int} (h:zda ns k xs (ns++more) r) (hI:∀x∈xs,zac ns x):zda (ns++more) k xs (ns++more) r:=fun L bits i j hb hi hj=>by
 rw[h L bits i j hb hi hj]
 have e:∀x∈xs,zai L bits (ns++more) x i j=zai L bits ns x i j:=fun x hx=>by rw[zav L bits more (hI x hx)]
 have e1:xs.any (fun x=>zai L bits (ns++more) x i j)=xs.any (fun x=>zai L bits ns x i j):=by
  rw[qZ,jI,jI]
  exact ⟨fun ⟨x,h1,h2⟩=>⟨x,h1,by rw[<-e x h1];exact h2⟩,fun ⟨x,h1,h2⟩=>⟨x,h1,by rw[e x h1];exact h2⟩⟩
 have e2:xs.all (fun x=>zai L bits (ns++more) x i j)=xs.all (fun x=>zai L bits ns x i j):=by
  rw[qZ,jJ,jJ]
  exact ⟨fun q x h1=>by rw[<-e x h1];exact q x h1,fun q x h1=>by rw[e x h1];exact q x h1⟩
 rw[e1,e2]
theorem zfK {ns:List Nd} (hn:zaA ns) {l bits:List Nat} {x:Int} (hx:zac ns x) {i j:Nat} (h:¬i<=j):zai l bits ns x i j=false:=by
 cases e:zai l bits ns x i j with
 | false=>rfl
 | true=>exact absurd (zh5 hn _ x zqn hx i j e) h
theorem zu0 {ns:List Nd} (hn:zaA ns) {k:Nat} {xs:List Int} {ps:List Tr} {r:Int} (hr:zac ns r) (h:zda ns 4 xs ns r) (ha:zoA D ns k xs ps):zb4 D ns r (fun l=>(ps.map (zae l k)).foldl (fun f g i j=>f i j||g i j) noF):=fun l bits hb hl hd i j hi hj=>by
 show _=(ps.map (zae l k)).foldl (fun f g i j=>f i j||g i j) noF i j
 rw[zkN,<-(zhD (n:=0) ha hb hl hd hi hj).1]
 by_cases hij:i<=j
 ·rw[h l bits i j hb hij (by omega),if_pos rfl]
  rfl
 ·rw[zfK hn hr hij]
  have:xs.any (fun x=>zai l bits ns x i j)=false:=by
   rw[List.any_eq_false]
   intro x hx
   rw[zfK hn (ha.2.1 x hx) hij]
   decide
  rw[this]
  rfl
theorem ztT {ns:List Nd} (hn:zaA ns) {k:Nat} {xs:List Int} {ps:List Tr} {r:Int} (hr:zac ns r) (h:zda ns 5 xs ns r) (ha:zoA D ns k xs ps):zb4 D ns r (fun l=>(ps.map (zae l k)).foldl (fun f g i j=>f i j&&g i j) (zaW noF)):=fun l bits hb hl hd i j hi hj=>by
 show _=(ps.map (zae l k)).foldl (fun f g i j=>f i j&&g i j) (zaW noF) i j
 rw[zi3,<-(zhD (n:=0) ha hb hl hd hi hj).2]
 by_cases hij:i<=j
 ·rw[h l bits i j hb hij (by omega),if_neg (by omega)]
  unfold zaW noF
  simp[hij]
 ·rw[zfK hn hr hij]
  unfold zaW noF
  simp[hij]
theorem ztU {ns:List Nd} (hn:zaA ns) {x e c r:Int} {m:Nat} {f:List Nat->Tbl} {id:Int} (hr:zac ns r) (he:zac ns e) (ke:kd ns e=1) (hc:zac ns c) (hcat:zhC ns x id ns c) (h:zda ns 4 [e,c] ns r) (hf:zb4 D ns x f) (hm:zb4 D ns id (fun l=>zmr (f l) (l.length+1) m)):zb4 D ns r (fun l=>zmr (f l) (l.length+1) (m+1)):=fun l bits hb hl hd i j hi hj=>by
 show _=(eqF i j||zaF (f l) (zmr (f l) (l.length+1) m) (l.length+1) i j)
 rw[<-zbM (hf l bits hb hl hd) (hm l bits hb hl hd) i j hi hj,<-hcat l bits i j (by omega)]
 by_cases hij:i<=j
 ·rw[h l bits i j hb hij (by omega),if_pos rfl,xQ,xQ,List.any_nil,Bool.or_false,zkt hn he ke]
 ·rw[zfK hn hr hij,zfK hn hc hij,<-zkt (l:=l) (bits:=bits) hn he ke,zfK hn he hij]
  rfl
theorem zr3 {ns more:List Nd} {x y c:Int} (h:zhC ns x y (ns++more) c) (hx:zac ns x) (hy:zac ns y):zhC (ns++more) x y (ns++more) c:=fun l bits i j hj=>by
 rw[h l bits i j hj,zav l bits more hx,zav l bits more hy]
end
end Go.Proofs.YtdmodhnhldbpnaaGreat
