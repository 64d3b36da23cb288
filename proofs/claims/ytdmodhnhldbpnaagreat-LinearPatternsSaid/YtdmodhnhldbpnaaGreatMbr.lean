/- Joined: LwOver, LwOuter, LwIdx, LwDel, LwHold. -/
import Derived.Test.YtdmodhnhldbpnaaGreatMbq
import Derived.Test.YtdmodhnhldbpnaaGreatMbh
import Derived.Deep.RegionHeld3
import Derived.Test.YtdmodhnhldbpnaaGreatMbj
import Derived.Lib.SliceRun
import Derived.Laws.IdiomCopy
import Derived.Test.YtdmodhnhldbpnaaGreatMal
import Derived.Test.YtdmodhnhldbpnaaGreatAid
/- has, isOver of package linear. -/
set_option linter.unusedSimpArgs false
set_option linter.unusedVariables false
set_option maxHeartbeats 8000000
set_option maxRecDepth 100000
namespace Go.Proofs.YtdmodhnhldbpnaaGreat
section
open Go.RowKit
theorem zuD {w:World} {a:Value} {ns:List Nd} {F:Nat->Prop} (id:Int) (h:AA w a ns F):Calls Tryz.prog 24 #[a,.int .i64 id] w fun e w'=>e=.returned (.bool (decide (0<=id/\id<(ns.length:Int))))/\w'=w:=by
 obtain ⟨gp,hgp⟩:=zar.ptr h
 have HL:=zqh (zar.len h)
 rw[hgp] at HL ⊢
 clear h hgp
 by_cases h0:0<=id
 ·have h1:decide (0<=id)=true:=qD h0
  have HE:Hid (decide (0<=id/\id<(ns.length:Int))=decide (id<(ns.length:Int))):=zqh (by rw[qZ,qY,qY];exact ⟨fun q=>q.2,fun q=>⟨h0,q⟩⟩)
  go_enter Tryz.func24,Tryz.ntmps24
  go_wp2_with fail
  refine HL.out.mono ?_
  rintro e w1 ⟨rfl,rfl⟩
  by_cases h2:id<(ns.length:Int)
  ·have h3:decide (id<(ns.length:Int))=true:=qD h2
   go_wp2_with fail
   go_ret
   exact ⟨by rw[HE.out,h3];rfl,rfl⟩
  ·have h3:decide (id<(ns.length:Int))=false:=qE h2
   go_wp2_with fail
   go_ret
   exact ⟨by rw[HE.out,h3];rfl,rfl⟩
 ·have h1:decide (0<=id)=false:=qE h0
  have HE:Hid (decide (0<=id/\id<(ns.length:Int))=false):=zqh (qE (fun q=>h0 q.1))
  go_enter Tryz.func24,Tryz.ntmps24
  go_wp2_with fail
  go_ret
  exact ⟨rfl,rfl⟩
theorem zqB {w:World} {gp bx:Nat} {ns:List Nd} {F:Nat->Prop} {l:List Int} {A:Option Addr} {n c:Nat} (h:AA w (.pointer (some ⟨gp,0,none⟩)) ns F) (hb:At w bx 26 #[.pointer (some ⟨gp,0,none⟩)]) (hl:zak w (.slice A n c) l) (hi:∀x∈l,zac ns x) :
  Calls Tryz.prog 65 #[.slice A n c,.pointer (some ⟨bx,0,none⟩)] w fun e w'=>e=.returned (.bool false)/\Below w.heap.size w w':=by
 have hmx:=hl.max
 obtain rfl:=hl.len
 have cx:=hb.cell 0
 by_cases h0:l.length=0
 ·have hz:((l.length:Nat):Int)=0:=by omega
  have hz2:decide ((0:Int)<((l.length:Nat):Int))=false:=qE (by omega)
  have hz3:decide (((l.length:Nat):Int) > 0)=false:=qE (by omega)
  clear h hb hl hi
  go_enter Tryz.func65,Tryz.ntmps65
  go_wp2_with fail
  go_quiet (fail)
  go_wp2_with fail
  go_ret
  exact ⟨rfl,zbc (qT _ _) _⟩
 ·obtain ⟨b,off,rfl,hbl,q0⟩:=hl.at (l.length-1) (by omega)
  obtain ⟨x,hx⟩:∃x,zbi l (l.length-1)=x:=⟨_,rfl⟩
  have hxi:zac ns x:=by rw[<-hx,zay (show l.length-1<l.length by omega)];exact hi _ (qG _)
  rw[hx] at q0
  have HH:Hid (∀q:Nat,Calls Tryz.prog 24 #[.pointer (some ⟨gp,0,none⟩),.int .i64 x] (w.drewN q) fun e w'=>e=.returned (.bool true)/\∃m,w'=w.drewN m):=zqh (fun q=>(zuD x (h.drewN q)).mono (fun e w' z=>⟨by rw[z.1,show decide (0<=x/\x<(ns.length:Int))=true from qD hxi],q,z.2⟩))
  have e1:IntKind.i64.wrap (((l.length:Nat):Int)-1)=((l.length-1:Nat):Int):=by rw[show ((l.length:Nat):Int)-1=((l.length-1:Nat):Int) by omega];exact IntWalk.i64_in _ (by omega)
  obtain ⟨k,hk⟩:∃k,l.length-1=k:=⟨_,rfl⟩
  have hkl:(k:Int)<((l.length:Nat):Int):=by omega
  have hk0:(0:Int)<=(k:Int):=by omega
  have hkn:((k:Nat):Int).toNat=k:=by omega
  rw[hk] at e1 q0
  have hz:((l.length:Nat):Int) > 0:=by omega
  have hz2:decide ((0:Int)<((l.length:Nat):Int))=true:=qD (by omega)
  have hz3:decide (((l.length:Nat):Int) > 0)=true:=qD (by omega)
  have hz4:decide (0<l.length)=true:=qD (by omega)
  clear h hb hl hi hx hxi hk
  go_enter Tryz.func65,Tryz.ntmps65
  go_wp2_with fail
  go_quiet (exact HH.out _)
  go_wp2_with fail
  go_ret
  exact ⟨rfl,zbc (qT _ _) _⟩
theorem zs2 (f:Fm) (p:List Int->Bool) (bx:Value) (A:Option Addr) (n c:Nat) (w:World) (h:zcF w (.slice A n c) f)
  (hcall:∀w',Below w.heap.size w w'->∀l A n c,zak w' (.slice A n c) l->l∈f->Calls Tryz.prog 65 #[.slice A n c,bx] w' fun e w''=>e=.returned (.bool (p l))/\Below w'.heap.size w' w'') :
  Calls Tryz.prog 102 #[.slice A n c,.func (.func 65) #[] #[bx]] w fun e w' =>
   ∃r:Int,e=.returned (.int .i64 r)/\((r=-1/\∀l∈f,p l=false)\/∃k:Nat,k<f.length/\r=k/\p (za5 f k)=true/\∀j,j<k->p (za5 f j)=false)/\Below w.heap.size w w':=by
 have HI:=zqh h
 have hm:=h.max
 obtain rfl:=h.len
 have HC:=zqh hcall
 have eg:∀args w,(callFunc 65 args).run Tryz.prog w=.ok (.enter 65 args) w:=enters_of Tryz.func65 (by kernel_rfl) rfl
 clear h hcall
 go_enter Tryz.func102,Tryz.ntmps102
 go_wp2_with fail
 go_loopw [8] (fun v wr=>∃i:Nat,i<=f.length/\v=.int .i64 i/\Hid (Below w.heap.size w wr)/\Hid (∀j,j<i->p (za5 f j)=false)) (fun v _=>f.length-(intOf v).toNat)
 case atStart=>exact ⟨0,qK _,rfl,zqh (qT _ _),zqh (fun j hj=>absurd hj (jD _))⟩
 case round =>
  obtain ⟨i,hi,rfl,HB,HN⟩:=hrel
  by_cases hlt:i<f.length
  ·have h1:(0:Int)<=(i:Int):=by omega
   have h2:(i:Int)<(f.length:Int):=by omega
   obtain ⟨b,off,A2,c2,rfl,_,q1,hp⟩:=(HI.out.next HB.out).at i hlt
   have hcl:=HC.out wr HB.out (za5 f i) A2 _ c2 hp (by rw[zaz hlt];exact qG hlt)
   obtain ⟨r,hr⟩:∃r,p (za5 f i)=r:=⟨_,rfl⟩
   rw[hr] at hcl
   have HCl:=zqh hcl
   have HR:=zqh hr
   clear hcl hr hp
   cases r
   ·go_wp2_with fail
    refine HCl.out.mono ?_
    rintro e w3 ⟨rfl,hb3⟩
    have HB3:=zqh (HB.out.trans (hb3.mono HB.out.size))
    clear hb3
    go_wp2_with fail
    refine ⟨⟨i+1,by omega,by go_num,HB3,zqh (fun j hj=>?_)⟩,by simp[intOf];omega⟩
    by_cases e:j=i
    ·rw[e];exact HR.out
    ·exact HN.out j (by omega)
   ·go_wp2_with fail
    refine HCl.out.mono ?_
    rintro e w3 ⟨rfl,hb3⟩
    have HB3:=zqh (HB.out.trans (hb3.mono HB.out.size))
    clear hb3
    go_wp2_with fail
    go_ret
    exact ⟨_,rfl,.inr ⟨i,hlt,rfl,HR.out,HN.out⟩,HB3.out⟩
  ·obtain rfl:i=f.length:=by omega
   go_wp2_with fail
   go_ret
   refine ⟨_,rfl,.inl ⟨rfl,fun l hl=>?_⟩,HB.out⟩
   obtain ⟨j,hj,rfl⟩:=List.mem_iff_getElem.1 hl
   have:=HN.out j hj
   rwa [zaz hj] at this
theorem zuq (f:Fm) (p:List Int->Bool) (bx:Value) (A:Option Addr) (n c:Nat) (w:World) (h:zcF w (.slice A n c) f)
  (hcall:∀w',Below w.heap.size w w'->∀l A n c,zak w' (.slice A n c) l->l∈f->Calls Tryz.prog 65 #[.slice A n c,bx] w' fun e w''=>e=.returned (.bool (p l))/\Below w'.heap.size w' w'') :
  Calls Tryz.prog 66 #[.slice A n c,.func (.func 65) #[] #[bx]] w fun e w'=>e=.returned (.bool (f.any p))/\Below w.heap.size w w':=by
 have HI:=zqh (zs2 f p bx A n c w h hcall)
 clear h hcall
 go_enter Tryz.func66,Tryz.ntmps66
 go_wp2_with fail
 refine HI.out.mono ?_
 rintro e w1 ⟨r,rfl,hr,hb⟩
 have HB:=zqh hb
 clear hb
 rcases hr with ⟨rfl,h0⟩ | ⟨k,hk,rfl,h1,_⟩
 ·have HE:Hid (f.any p=false):=zqh (by rw[List.any_eq_false];intro l hl;rw[h0 l hl];simp)
  clear h0
  go_wp2_with fail
  go_ret
  exact ⟨by rw[HE.out];rfl,HB.out⟩
 ·have HE:Hid (f.any p=true):=zqh (by rw[jI];exact ⟨_,qG hk,by rw[<-zaz hk];exact h1⟩)
  have h2:(k:Int)≥0:=by omega
  clear h1
  go_wp2_with fail
  go_ret
  exact ⟨by rw[HE.out];rfl,HB.out⟩
theorem zov {w:World} {a:Value} {ns:List Nd} {F:Nat->Prop} {f:Fm} {A:Option Addr} {n c:Nat} (h:AA w a ns F) (hv:zcF w (.slice A n c) f) (hf:zbf (Ls ns) f) :
  Calls Tryz.prog 37 #[a,.slice A n c] w fun e w'=>e=.returned (.bool true)/\Below w.heap.size w w':=by
 obtain ⟨gp,rfl⟩:=zar.ptr h
 have hmx:=zar.max h
 obtain ⟨w2,hw2⟩:∃w2,w2=w.alloc (.cells #[.pointer (some ⟨gp,0,none⟩)] 26):=⟨_,rfl⟩
 have hb2:Below w.heap.size w w2:=by rw[hw2];exact zqb
 have HB2:=zqh hb2
 have HA2:=zqh (h.next hb2)
 have hbx:At w2 w.heap.size 26 #[.pointer (some ⟨gp,0,none⟩)]:=by rw[hw2];exact At.new _ _ _
 have HBx:=zqh hbx
 have HV2:=zqh (hv.next hb2)
 have HI:=zqh hf
 have HF:=zqh (zfV HV2.out (by have:=hf.few;omega) (fun q hq=>by have:=hf.part (zjl ns) hq;rw[zf5] at this;omega))
 rw[hf.fm] at HF
 have HW2:=zqh hw2
 have c2:=hbx.cell 0
 rw[hw2] at c2 HF
 clear h hv hf hb2 hbx hw2
 go_enter Tryz.func37,Tryz.ntmps37
 go_wp2_with fail
 refine HF.out.mono ?_
 rintro e w3 ⟨rfl,hb3⟩
 rw[<-HW2.out] at hb3
 have HB3:=zqh (HB2.out.trans (hb3.mono HB2.out.size))
 have HA3:=zqh (HA2.out.next hb3)
 have HBx3:=zqh ((hb3.block _ HBx.out.lt).trans HBx.out)
 have HC:=zqh (zuq f (fun _=>false) (.pointer (some ⟨w.heap.size,0,none⟩)) A n c w3 (HV2.out.next hb3) (fun w' hb' l A2 n2 c2 hl hm=>zqB (HA3.out.next hb') ((hb'.block _ (At.lt HBx3.out)).trans HBx3.out) hl (HI.out.inF l hm)))
 have HAny:Hid (f.any (fun _=>false)=false):=zqh (by simp)
 rw[HAny.out] at HC
 clear hb3 c2 HF
 go_wp2_with fail
 refine HC.out.mono ?_
 rintro e w4 ⟨rfl,hb4⟩
 have HB4:=zqh (HB3.out.trans (hb4.mono HB3.out.size))
 clear hb4
 go_wp2_with fail
 go_ret
 exact ⟨rfl,HB4.out⟩
end

section
open Go.RowKit
def OkL (ns:List Nd) (f:Fm):Prop:=zbf (Ls ns) f
theorem zga.xb {p:LP} {w0 w1:World} {a:Value} {ns:List Nd} {F:Nat->Prop} {b bt:Nat} (h:zga p w0 a ns F b bt w1) {k:Nat} (hk:XB p F k):F k\/w0.heap.size<=k:=by
 obtain ⟨n1,n2,n3,n4⟩:=h.new
 rcases hk with q | q | q | q | q
 ·exact Or.inl q
 ·exact Or.inr (by omega)
 ·exact Or.inr (by omega)
 ·exact Or.inr (by omega)
 ·exact Or.inr (by omega)
theorem zga.xy {p:LP} {w0 w1:World} {a:Value} {ns:List Nd} {F:Nat->Prop} {b bt:Nat} (h:zga p w0 a ns F b bt w1) {k:Nat} (hk:XY p F k):F k\/w0.heap.size<=k:=hk.elim h.xb (fun q=>absurd q (h.y k))
theorem zga.off {p:LP} {w0 w1 w:World} {a:Value} {ns ns1:List Nd} {F F1:Nat->Prop} {b bt:Nat} {many:Bool} (h:zga p w0 a ns F b bt w1) (g:za8 p w1 ns F false w ns1 F1 many):OffF F w0 w :=
 (OffF.of h.below).off g.off (fun k q=>h.xb q)
theorem zga.low {p:LP} {w0 w1 w:World} {a:Value} {ns ns1:List Nd} {F F1:Nat->Prop} {b bt:Nat} {many:Bool} (h:zga p w0 a ns F b bt w1) (g:za8 p w1 ns F false w ns1 F1 many):∀k,F1 k->F k\/w0.heap.size<=k:=fun k q=>by
 rcases g.low k q with q | q
 ·exact Or.inl q
 ·exact Or.inr (qH h.below.size q)
theorem zvE {p:LP} {w0 w1 w:World} {a:Value} {ns ns1:List Nd} {F F1:Nat->Prop} {b bt:Nat} {many:Bool} {R:List Nd->Fm->Prop} {A:Option Addr} {n c:Nat} {f:Fm} (h:zga p w0 a ns F b bt w1) (g:za8 p w1 ns F false w ns1 F1 many) (hk:zaJ (XY p F1) w (.slice A n c) f) (hi:zbf (Ls ns1) f) (hR:many=false->R ns1 f) :
  Calls Tryz.prog 26 #[.pointer (some ⟨p.gw,0,none⟩),.slice A n c] w (ztp AA OkL w0 a ns F R):=by
 have c7:=g.lw.cells.2.2.2.2.2.2.2
 have HH:=zqh h
 have HG:=zqh g
 have HK:=zqh hk
 have HI:=zqh hi
 have HR:=zqh hR
 obtain ⟨m,rfl⟩:=g.more
 cases many
 ·clear h g hk hi hR
  go_enter Tryz.func26,Tryz.ntmps26
  go_wp2_with fail
  go_ret2
  have hA:=HG.out.lw.ar
  rw[HH.out.a] at hA
  exact ⟨A,n,c,0,f,m,F1,rfl,hA,HH.out.low HG.out,HH.out.off HG.out,Or.inr ⟨rfl,HK.out.less (fun k q=>Or.inl (Or.inl q)),HI.out,HR.out (by trivial)⟩⟩
 ·have HU:=zqh (zvn g.lw h.before)
  clear h g hk hi hR
  go_enter Tryz.func26,Tryz.ntmps26
  go_wp2_with fail
  refine HU.out.mono ?_
  rintro e w2 ⟨rfl,F2,hA,hl,ho⟩
  have HA:=zqh hA
  have HL:=zqh hl
  have HO:=zqh ho
  clear hA hl ho
  go_wp2_with fail
  go_ret2
  have hA:=HA.out
  rw[HH.out.a] at hA
  refine ⟨none,0,0,4,[],[],F2,rfl,by rw[jA];exact hA,fun k q=>?_,(HH.out.off HG.out).off HO.out (HH.out.low HG.out),Or.inl rfl⟩
  rcases HL.out k q with q | q
  ·exact HH.out.low HG.out k q
  ·exact Or.inr (qH (HH.out.off HG.out).size q)
theorem zvo {w:World} {a:Value} {ns:List Nd} {F:Nat->Prop} (id:Int) (h:AA w a ns F) (hid:I64 id) (hn:¬zac ns id):Calls Tryz.prog 8 #[a,.int .i64 id] w fun e w'=>∃(A:Option Addr) (c:Nat),e=.returned (.tuple #[.slice A 0 c,.int .i64 1])/\AA w' a ns F/\Below w.heap.size w w':=by
 have HH:=zqh (zuD id h)
 rw[show decide (0<=id/\id<(ns.length:Int))=false from qE hn] at HH
 have HA:=zqh h
 clear h hn
 go_enter Tryz.func8,Tryz.ntmps8
 go_wp2_with fail
 refine HH.out.mono ?_
 rintro e w1 ⟨rfl,rfl⟩
 go_wp2_with fail
 go_ret2
 exact ⟨none,0,rfl,HA.out,qT _ _⟩
theorem zvp {w:World} {a:Value} {ns:List Nd} {F:Nat->Prop} (id:Int) (h:AA w a ns F) (hin:zac ns id):Calls Tryz.prog 8 #[a,.int .i64 id] w (ztp AA OkL w a ns F fun ms f=>OfR ns id ms f):=by
 have HH:=zqh (zuD id h)
 rw[show decide (0<=id/\id<(ns.length:Int))=true from qD hin] at HH
 have HB:=zqh (zlm 0 0 h (by omega) (by omega))
 have HI:=zqh hin
 have hI:=zcg (zar.max h) hin
 clear h hin
 go_enter Tryz.func8,Tryz.ntmps8
 go_wp2_with fail
 refine HH.out.mono ?_
 rintro e w1 ⟨rfl,rfl⟩
 go_wp2_with fail
 refine HB.out.mono ?_
 rintro e w2 ⟨p,rfl,hb⟩
 have HBg:=zqh hb
 have HF:=zqh (zfv id hI (Or.inl HI.out) hb.lw)
 clear hb
 go_wp2_with fail
 refine HF.out.mono ?_
 rintro e w3 ⟨v3,f,ns3,F3,many3,rfl,hg3,hk3,hi3,hd3⟩
 obtain ⟨A3,c3,hv3⟩:=hk3.at
 subst hv3
 have HE:=zqh (zvE HBg.out hg3 hk3 hi3 hd3)
 clear hg3 hk3 hi3 hd3
 go_wp2_with fail
 refine HE.out.mono ?_
 rintro e w4 ⟨A4,n4,c4,er,f4,m4,F4,rfl,h4⟩
 have H4:=zqh h4
 clear h4
 go_wp2_with fail
 go_ret2
 exact ⟨A4,n4,c4,er,f4,m4,F4,rfl,H4.out⟩
theorem zvq {w:World} {a:Value} {ns:List Nd} {F:Nat->Prop} {A:Option Addr} {n c:Nat} {f:Fm} (b bt:Nat) (h:AA w a ns F) (hk:zaJ F w (.slice A n c) f) (hf:OkL ns f) (hb:b<256) (hbt:bt<256) :
  Calls Tryz.prog 14 #[a,.slice A n c,.int .u8 b,.int .u8 bt] w (ztp AA OkL w a ns F fun ms h=>Den (V1 b bt) 1 (fun l bits i j=>f.any (fun p=>p.all (fun x=>zeK ns x l bits i j))) ms h):=by
 have HO:=zqh (zov h hk.here hf)
 have HA:=zqh h
 have HK:=zqh hk
 have HF:=zqh hf
 clear h hk hf
 go_enter Tryz.func14,Tryz.ntmps14
 go_wp2_with fail
 refine HO.out.mono ?_
 rintro e w1 ⟨rfl,hb1⟩
 have HB1:=zqh hb1
 have HBe:=zqh (zlm b bt (HA.out.next hb1) hb hbt)
 have HK1:=zqh (HK.out.next hb1)
 clear hb1
 go_wp2_with fail
 refine HBe.out.mono ?_
 rintro e w2 ⟨p,rfl,hbg⟩
 have HBg0:=zqh hbg
 have HBg:Hid (zga p w a ns F b bt w2):=zqh ⟨hbg.lw,HB1.out.trans (hbg.below.mono HB1.out.size),hbg.a,hbg.b,hbg.bt,hbg.before,hbg.y,by obtain ⟨n1,n2,n3,n4⟩:=hbg.new;have:=HB1.out.size;omega⟩
 have hK2:zaJ (XY p F) w2 (.slice A n c) f:=HK1.out.step (OffF.of hbg.below) (fun k q=>hbg.xy q)
 have HRe:=zqh (zsU zof hbg.lw hK2 HF.out (fun q hq=>zou q (fun y hy=>zbf.inF HF.out q hq y hy)))
 rw[hbg.b,hbg.bt] at HRe
 clear hbg hK2
 go_wp2_with fail
 refine HRe.out.mono ?_
 rintro e w3 ⟨v3,f3,ns3,F3,many3,rfl,hg3,hk3,hi3,hd3⟩
 obtain ⟨A3,c3,hv3⟩:=hk3.at
 subst hv3
 have HE:=zqh (zvE HBg.out hg3 hk3 hi3 hd3)
 clear hg3 hk3 hi3 hd3
 go_wp2_with fail
 refine HE.out.mono ?_
 rintro e w4 ⟨A4,n4,c4,er,f4,m4,F4,rfl,h4⟩
 have H4:=zqh h4
 clear h4
 go_wp2_with fail
 go_ret2
 exact ⟨A4,n4,c4,er,f4,m4,F4,rfl,H4.out⟩
end

section
open Go.RowKit
theorem zs3 (l:List Int) (p:Int->Bool) (Inv:World->Prop) (bx:Value) (A:Option Addr) (n c:Nat) (w:World) (h:Inv w) (hat:∀W,Inv W->zak W (.slice A n c) l)
  (hcall:∀W x,Inv W->x∈l->Calls Tryz.prog 68 #[.int .i64 x,bx] W fun e W'=>e=.returned (.bool (p x))/\Inv W') :
  Calls Tryz.prog 71 #[.slice A n c,.func (.func 68) #[] #[bx]] w fun e w' =>
   ∃r:Int,e=.returned (.int .i64 r)/\((r=-1/\∀x∈l,p x=false)\/∃k:Nat,k<l.length/\r=k/\p (zbi l k)=true/\∀j,j<k->p (zbi l j)=false)/\Inv w':=by
 have HI:=zqh h
 have HAt:=zqh hat
 have hm:=(hat w h).max
 obtain rfl:=(hat w h).len
 have HC:=zqh hcall
 have eg:∀args w,(callFunc 68 args).run Tryz.prog w=.ok (.enter 68 args) w:=enters_of Tryz.func68 (by kernel_rfl) rfl
 clear h hcall hat
 go_enter Tryz.func71,Tryz.ntmps71
 go_wp2_with fail
 go_loopw [8] (fun v wr=>∃i:Nat,i<=l.length/\v=.int .i64 i/\Hid (Inv wr)/\Hid (∀j,j<i->p (zbi l j)=false)) (fun v _=>l.length-(intOf v).toNat)
 case atStart=>exact ⟨0,qK _,rfl,HI,zqh (fun j hj=>absurd hj (jD _))⟩
 case round =>
  obtain ⟨i,hi,rfl,HV,HN⟩:=hrel
  by_cases hlt:i<l.length
  ·have h1:(0:Int)<=(i:Int):=by omega
   have h2:(i:Int)<(l.length:Int):=by omega
   obtain ⟨b,off,rfl,_,q1⟩:=(HAt.out wr HV.out).at i hlt
   have hcl:=HC.out wr (zbi l i) HV.out (by rw[zay hlt];exact qG hlt)
   obtain ⟨r,hr⟩:∃r,p (zbi l i)=r:=⟨_,rfl⟩
   obtain ⟨x,hx⟩:∃x,zbi l i=x:=⟨_,rfl⟩
   rw[hr] at hcl
   have HR:=zqh hr
   rw[hx] at hcl q1
   have HCl:=zqh hcl
   clear hcl hr hx
   cases r
   ·go_wp2_with fail
    refine HCl.out.mono ?_
    rintro e w3 ⟨rfl,hv3⟩
    have HV3:=zqh hv3
    clear hv3 q1
    go_wp2_with fail
    refine ⟨⟨i+1,by omega,by go_num,HV3,zqh (fun j hj=>?_)⟩,by simp[intOf];omega⟩
    by_cases e:j=i
    ·rw[e];exact HR.out
    ·exact HN.out j (by omega)
   ·go_wp2_with fail
    refine HCl.out.mono ?_
    rintro e w3 ⟨rfl,hv3⟩
    have HV3:=zqh hv3
    clear hv3 q1
    go_wp2_with fail
    go_ret
    exact ⟨_,rfl,Or.inr ⟨i,hlt,rfl,HR.out,HN.out⟩,HV3.out⟩
  ·obtain rfl:i=l.length:=by omega
   go_wp2_with fail
   go_ret
   refine ⟨_,rfl,Or.inl ⟨rfl,fun x hx=>?_⟩,HV.out⟩
   obtain ⟨k,hk,rfl⟩:=List.mem_iff_getElem.1 hx
   rw[<-zay hk]
   exact HN.out k hk
theorem zow (l:List Int) (p:Int->Bool) (Inv:World->Prop) (bx:Value) (A:Option Addr) (n c:Nat) (w:World) (h:Inv w) (hat:∀W,Inv W->zak W (.slice A n c) l)
  (hcall:∀W x,Inv W->x∈l->Calls Tryz.prog 38 #[.int .i64 x,bx] W fun e W'=>e=.returned (.bool (p x))/\Inv W') :
  Calls Tryz.prog 71 #[.slice A n c,.func (.func 38) #[] #[bx]] w fun e w' =>
   ∃r:Int,e=.returned (.int .i64 r)/\((r=-1/\∀x∈l,p x=false)\/∃k:Nat,k<l.length/\r=k/\p (zbi l k)=true/\∀j,j<k->p (zbi l j)=false)/\Inv w':=by
 have HI:=zqh h
 have HAt:=zqh hat
 have hm:=(hat w h).max
 obtain rfl:=(hat w h).len
 have HC:=zqh hcall
 have eg:∀args w,(callFunc 38 args).run Tryz.prog w=.ok (.enter 38 args) w:=enters_of Tryz.func38 (by kernel_rfl) rfl
 clear h hcall hat
 go_enter Tryz.func71,Tryz.ntmps71
 go_wp2_with fail
 go_loopw [8] (fun v wr=>∃i:Nat,i<=l.length/\v=.int .i64 i/\Hid (Inv wr)/\Hid (∀j,j<i->p (zbi l j)=false)) (fun v _=>l.length-(intOf v).toNat)
 case atStart=>exact ⟨0,qK _,rfl,HI,zqh (fun j hj=>absurd hj (jD _))⟩
 case round =>
  obtain ⟨i,hi,rfl,HV,HN⟩:=hrel
  by_cases hlt:i<l.length
  ·have h1:(0:Int)<=(i:Int):=by omega
   have h2:(i:Int)<(l.length:Int):=by omega
   obtain ⟨b,off,rfl,_,q1⟩:=(HAt.out wr HV.out).at i hlt
   have hcl:=HC.out wr (zbi l i) HV.out (by rw[zay hlt];exact qG hlt)
   obtain ⟨r,hr⟩:∃r,p (zbi l i)=r:=⟨_,rfl⟩
   obtain ⟨x,hx⟩:∃x,zbi l i=x:=⟨_,rfl⟩
   rw[hr] at hcl
   have HR:=zqh hr
   rw[hx] at hcl q1
   have HCl:=zqh hcl
   clear hcl hr hx
   cases r
   ·go_wp2_with fail
    refine HCl.out.mono ?_
    rintro e w3 ⟨rfl,hv3⟩
    have HV3:=zqh hv3
    clear hv3 q1
    go_wp2_with fail
    refine ⟨⟨i+1,by omega,by go_num,HV3,zqh (fun j hj=>?_)⟩,by simp[intOf];omega⟩
    by_cases e:j=i
    ·rw[e];exact HR.out
    ·exact HN.out j (by omega)
   ·go_wp2_with fail
    refine HCl.out.mono ?_
    rintro e w3 ⟨rfl,hv3⟩
    have HV3:=zqh hv3
    clear hv3 q1
    go_wp2_with fail
    go_ret
    exact ⟨_,rfl,Or.inr ⟨i,hlt,rfl,HR.out,HN.out⟩,HV3.out⟩
  ·obtain rfl:i=l.length:=by omega
   go_wp2_with fail
   go_ret
   refine ⟨_,rfl,Or.inl ⟨rfl,fun x hx=>?_⟩,HV.out⟩
   obtain ⟨k,hk,rfl⟩:=List.mem_iff_getElem.1 hx
   rw[<-zay hk]
   exact HN.out k hk
end

section
open Go.RowKit
theorem zhS (g:Nat):∀(vs:List Value) (o:Nat) (w:World),w.grownBy (w.setCells g o vs) (some g)
 | [],_,w=>⟨rfl,rfl,rfl,qL _,fun _ _ _=>rfl⟩
 | v::vs,o,w=>by
  have h1:=zhe w g o v
  have h2:=zhS g vs (o+1) (w.setCell ⟨g,o,none⟩ v)
  exact ⟨h2.os.trans h1.os,h2.tape.trans h1.tape,h2.output.trans h1.output,qH h1.size h2.size,fun k hk hn=>(h2.block k (qM hk h1.size) hn).trans (h1.block k hk hn)⟩
def DR (w:World) (g n:Nat) (f:Nat->Int):Prop:=g<w.heap.size/\∀j,j<n->w.cell? ⟨g,j,none⟩=some (.int .i64 (f j))/\w.frozen? ⟨g,j,none⟩=false
theorem DR.kept {w w':World} {g n:Nat} {f:Nat->Int} (h:DR w g n f) (hb:w'.heap[g]?=w.heap[g]?) (hs:w.heap.size<=w'.heap.size):DR w' g n f :=
 ⟨qM h.1 hs,fun j hj=>⟨(yA (a:=⟨g,j,none⟩) hb).trans (h.2 j hj).1,(World.frozen?_of_block (a:=⟨g,j,none⟩) hb).trans (h.2 j hj).2⟩⟩
theorem DR.set {w:World} {g n:Nat} {f:Nat->Int} (h:DR w g n f) {i:Nat} (hi:i<n) (x:Int):DR (w.setCell ⟨g,i,none⟩ (.int .i64 x)) g n (fun j=>if j=i then x else f j):=by
 refine ⟨by rw[jC];exact h.1,fun j hj=>⟨?_,?_⟩⟩
 ·show _=some (Value.int .i64 (if j=i then x else f j))
  by_cases e:j=i
  ·subst e
   rw[if_pos rfl]
   exact World.cell?_setCell_same w _ _ (h.2 j hj).1
  ·rw[if_neg e,World.cell?_setCell_other _ _ _ _ (by intro q;injection q with _ q _;exact e q.symm)]
   exact (h.2 j hj).1
 ·rw[World.frozen?_setCell]
  exact (h.2 j hj).2
theorem DR.ints {w:World} {g n cap:Nat} {f:Nat->Int} (h:DR w g n f) (l:List Int) (hl:l.length<=n) (hf:∀j,j<l.length->f j=zbi l j) (hI:∀x∈l,IsI x) (hc:n<=cap) (hc2:cap<=9223372036854775807):zak w (.slice (some ⟨g,0,none⟩) l.length cap) l :=
 ⟨_,_,rfl,by omega,hc2,hI,fun _=>⟨g,0,rfl,h.1,fun j hj=>by rw[yH,(h.2 j (by omega)).1,hf j hj]⟩⟩
theorem zs4 (w:World):(zeroValue 3).run Tryz.prog w=.ok (.int .i64 0) w:=by kernel_rfl
theorem zeJ {l:List Int} {j:Nat} (h:j<l.length) (q:Int->Bool):(l.take (j+1)).filter q=(l.take j).filter q++(if q l[j] then [l[j]] else []):=by
 rw[qW h,kY]
 congr 1
 cases e:q l[j]<;>simp[e]
theorem zs5 (l:List Int) (p:Int->Bool) (Inv:World->Prop) (bx:Value) (g cap:Nat) (w:World) (h:Inv w) (hr:DR w g l.length (zbi l)) (hI:∀x∈l,IsI x) (hcap:l.length<=cap) (hcap2:cap<=9223372036854775807)
  (hgr:∀W W',Inv W->W.grownBy W' (some g)->W'.heap.size=W.heap.size->Inv W')
  (hcall:∀W x,Inv W->x∈l->Calls Tryz.prog 38 #[.int .i64 x,bx] W fun e W'=>e=.returned (.bool (p x))/\Inv W'/\W'.heap[g]?=W.heap[g]?/\W.heap.size<=W'.heap.size) :
  Calls Tryz.prog 41 #[.slice (some ⟨g,0,none⟩) l.length cap,.func (.func 38) #[] #[bx]] w fun e w'=>e=.returned (.slice (some ⟨g,0,none⟩) (l.filter (fun x=>!p x)).length cap)/\Inv w'/\zak w' (.slice (some ⟨g,0,none⟩) (l.filter (fun x=>!p x)).length cap) (l.filter (fun x=>!p x)):=by
 have HIx:=zqh (zow l p (fun W=>Inv W/\DR W g l.length (zbi l)) bx (some ⟨g,0,none⟩) l.length cap w ⟨h,hr⟩ (fun W z=>z.2.ints l zqn (fun _ _=>rfl) hI hcap hcap2)
  (fun W x z hx=>(hcall W x z.1 hx).mono (fun e W' q=>⟨q.1,q.2.1,z.2.kept q.2.2.1 q.2.2.2⟩)))
 have HC:=zqh hcall
 have HG:=zqh hgr
 have HII:=zqh hI
 have eg:∀args w,(callFunc 38 args).run Tryz.prog w=.ok (.enter 38 args) w:=enters_of Tryz.func38 (by kernel_rfl) rfl
 have hl63:l.length<=9223372036854775807:=by omega
 clear h hr hI hgr hcall
 go_enter Tryz.func41,Tryz.ntmps41
 go_wp2_with fail
 refine HIx.out.mono ?_
 rintro e w1 ⟨r,rfl,hk,hv,hd⟩
 have HV:=zqh hv
 have HD:=zqh hd
 clear hv hd HIx
 rcases hk with ⟨rfl,h0⟩ | ⟨k,hkl,rfl,h1,h2⟩
 ·have HF:Hid (l.filter (fun x=>!p x)=l):=zqh (List.filter_eq_self.2 (fun x hx=>by rw[h0 x hx];rfl))
  clear h0
  go_wp2_with fail
  go_ret
  rw[HF.out]
  exact ⟨rfl,HV.out,HD.out.ints l zqn (fun _ _=>rfl) HII.out hcap hcap2⟩
 have HT:Hid ((l.take (k+1)).filter (fun x=>!p x)=l.take k):=zqh (by
  rw[zeJ hkl,<-zay hkl,h1]
  simp only[kN,xH,if_false,jA]
  refine List.filter_eq_self.2 (fun x hx=>?_)
  obtain ⟨j,hj,rfl⟩:=List.mem_iff_getElem.1 hx
  rw[jR] at hj
  have:=h2 j (by omega)
  rw[zay (show j<l.length by omega)] at this
  rw[List.getElem_take,this];rfl)
 have hkn:¬(k:Int)=-1:=by omega
 have hkb:((k:Int)==-1)=false:=(zab hkn).1
 clear h1 h2
 go_wp2_with fail
 go_loopw [5,6] (fun u5 u6 wr=>∃(i j:Nat) (f:Nat->Int),i<j/\j<=l.length/\u5=.int .i64 i/\u6=.int .i64 j/\Hid (Inv wr)/\Hid (DR wr g l.length f)/\Hid (∀t,j<=t->t<l.length->f t=zbi l t)/\Hid ((l.take j).filter (fun x=>!p x)=(List.range i).map f)) (fun _ u6 _=>l.length-(intOf u6).toNat)
 case atStart =>
  refine ⟨k,k+1,zbi l,by omega,by omega,rfl,by go_num,HV,HD,zqh (fun _ _ _=>rfl),zqh ?_⟩
  rw[HT.out]
  apply List.ext_getElem
  ·simp;omega
  ·intro t h1 h2
   simp at h1 h2
   rw[List.getElem_take]
   simp[zay (show t<l.length by omega)]
 case round =>
  clear HV HD HT
  obtain ⟨i,j,f,hij,hj,rfl,rfl,HV,HD,HF,HT⟩:=hrel
  by_cases hlt:j<l.length
  ·have g1:(0:Int)<=(j:Int):=by omega
   have g2:(j:Int)<(l.length:Int):=by omega
   have g3:(0:Int)<=(i:Int):=by omega
   have g4:(i:Int)<(l.length:Int):=by omega
   have c1:=(HD.out.2 j hlt).1
   rw[HF.out j zqn hlt] at c1
   obtain ⟨x,hx⟩:∃x,zbi l j=x:=⟨_,rfl⟩
   rw[hx] at c1
   have HXe:Hid (l[j]=x):=zqh (by rw[<-hx,zay hlt])
   have HCl:=zqh (HC.out wr x HV.out (by rw[<-HXe.out];exact qG hlt))
   obtain ⟨r,hr⟩:∃r,p x=r:=⟨_,rfl⟩
   rw[hr] at HCl
   have HR:=zqh hr
   clear hx hr
   go_wp2_with fail
   refine HCl.out.mono ?_
   rintro e w3 ⟨rfl,hv3,hg3,hs3⟩
   have HV3:=zqh hv3
   have HD3:=zqh (HD.out.kept hg3 hs3)
   clear hv3 hg3 hs3 c1
   cases r
   ·have c3:=(HD3.out.2 i (by omega)).1
    have f3:=(HD3.out.2 i (by omega)).2
    go_wp2_with fail
    refine ⟨⟨i+1,j+1,_,by omega,by omega,by go_num,by go_num,zqh (HG.out _ _ HV3.out (zhe _ _ _ _) (jC _ _ _)),zqh (HD3.out.set (by omega) x),zqh (fun t h1 h2=>?_),zqh ?_⟩,by simp[intOf];omega⟩
    ·rw[if_neg (by omega)]
     exact HF.out t (by omega) h2
    ·rw[zeJ hlt,HXe.out,HR.out,HT.out,kF,jE]
     simp only[Bool.not_false,if_true,jW,kL]
     congr 1
     exact gL (fun t ht=>by rw[if_neg (by have:=List.mem_range.1 ht;omega)])
   ·go_wp2_with fail
    refine ⟨⟨i,j+1,f,by omega,by omega,rfl,by go_num,HV3,HD3,zqh (fun t h1 h2=>HF.out t (by omega) h2),zqh ?_⟩,by simp[intOf];omega⟩
    rw[zeJ hlt,HXe.out,HR.out,HT.out]
    simp
  ·obtain rfl:j=l.length:=by omega
   have g3:(0:Int)<=(i:Int):=by omega
   have g4:(i:Int)<=(l.length:Int):=by omega
   have g5:(i:Int)<=(cap:Int):=by omega
   have g6:¬cap=i:=by omega
   have hcl:∀ty,(Builtin.clear_ #[80] ty #[.slice (some ⟨g,i,none⟩) (l.length-i) (cap-i)]).run Tryz.prog wr=.ok (.tuple #[]) (wr.setCells g i (List.replicate (l.length-i) (.int .i64 0))) :=
    fun ty=>Lib.run_clear_slice wr _ _ ty _ Tryz.underlying80 zs4 rfl rfl g i _ _ (by omega) (fun t ht=>by rw[(HD.out.2 (i+t) (by omega)).1];rfl) (fun t ht=>(HD.out.2 (i+t) (by omega)).2)
   have HEnd:Hid (l.filter (fun x=>!p x)=(List.range i).map f):=zqh (by have:=HT.out;rwa [qQ] at this)
   have HLe:Hid ((l.filter (fun x=>!p x)).length=i):=zqh (by rw[HEnd.out];simp)
   go_wp2_with fail
   go_ret
   have hgs:=zhS g (List.replicate (l.length-i) (.int .i64 0)) i wr
   have hsz:∀(vs:List Value) (o:Nat) (W:World),(W.setCells g o vs).heap.size=W.heap.size:=fun vs=>by
    induction vs with
    | nil=>intro o W;rfl
    | cons v vs ih=>intro o W;exact (ih _ _).trans (jC _ _ _)
   refine ⟨by rw[HLe.out];rfl,HG.out _ _ HV.out hgs (hsz _ _ _),?_⟩
   refine ⟨_,_,rfl,by rw[HLe.out];omega,hcap2,fun x hx=>HII.out x (List.mem_filter.1 hx).1,fun _=>⟨g,0,rfl,by rw[hsz];exact HD.out.1,fun t ht=>?_⟩⟩
   rw[HLe.out] at ht
   rw[yH,World.cell?_setCells_out g _ _ _ _ (fun _ _=>Or.inl ht),(HD.out.2 t (by omega)).1,zay (by rw[HLe.out];exact ht)]
   congr 1
   simp only[HEnd.out]
   simp
end

section
open Go.RowKit Go.Maps
theorem zjs (n:Nat) (hn:n<=20000) (w:World):(Instr.makeMap 110 (some (.int .i64 (n:Int)))).run Tryz.prog w=.ok (.map (some w.heap.size)) (w.alloc (.map #[] 0)):=by
 simp[Instr.makeMap,yI Tryz.underlying110]
 try rfl
theorem zox {x:Int} (h:IsI x):I64 x:=by unfold IsI at h;unfold I64;omega
theorem zs6 {w:World} {b m k:Nat} {s:List Int} {x:Int} (hb:w.cell? ⟨b,0,none⟩=some (.map (some m))) (hs:zaT w m k s) (hx:I64 x):Calls Tryz.prog 68 #[.int .i64 x,.pointer (some ⟨b,0,none⟩)] w fun e w'=>e=.returned (.bool (!decide (x∈s)))/\Below w.heap.size w w':=by
 have hlk:=hs.look hx
 obtain ⟨r,hr⟩:∃r,decide (x∈s)=r:=⟨_,rfl⟩
 rw[hr] at hlk ⊢
 have HB:Hid (Below w.heap.size w (w.alloc (.cells #[] 111))):=zqh (zqb)
 clear hs hr
 go_enter Tryz.func68,Tryz.ntmps68
 cases r
 ·go_wp2_with fail
  go_ret
  exact ⟨rfl,HB.out⟩
 ·go_wp2_with fail
  go_ret
  exact ⟨rfl,HB.out⟩
theorem zur (l:List Int) (p:Int->Bool) (Inv:World->Prop) (bx:Value) (A:Option Addr) (n c:Nat) (w:World) (h:Inv w) (hat:∀W,Inv W->zak W (.slice A n c) l)
  (hcall:∀W x,Inv W->x∈l->Calls Tryz.prog 68 #[.int .i64 x,bx] W fun e W'=>e=.returned (.bool (p x))/\Inv W') :
  Calls Tryz.prog 70 #[.slice A n c,.func (.func 68) #[] #[bx]] w fun e w'=>e=.returned (.bool (l.any p))/\Inv w':=by
 have HI:=zqh (zs3 l p Inv bx A n c w h hat hcall)
 clear h hat hcall
 go_enter Tryz.func70,Tryz.ntmps70
 go_wp2_with fail
 refine HI.out.mono ?_
 rintro e w1 ⟨r,rfl,hr,hv⟩
 have HV:=zqh hv
 clear hv
 rcases hr with ⟨rfl,h0⟩ | ⟨k,hk,rfl,h1,_⟩
 ·have HE:Hid (l.any p=false):=zqh (by rw[List.any_eq_false];intro x hx;rw[h0 x hx];simp)
  clear h0
  go_wp2_with fail
  go_ret
  exact ⟨by rw[HE.out];rfl,HV.out⟩
 ·have HE:Hid (l.any p=true):=zqh (by rw[jI];exact ⟨_,qG hk,by rw[<-zay hk];exact h1⟩)
  have h2:(k:Int)≥0:=by omega
  clear h1
  go_wp2_with fail
  go_ret
  exact ⟨by rw[HE.out];rfl,HV.out⟩
theorem zs7 (l on s:List Int) (A:Option Addr) (n c b2 b m k:Nat) (w:World) (hl:zak w (.slice A n c) l) (hlI:∀x∈l,IsI x) (hb2:w.cell? ⟨b2,0,none⟩=some (.func (.func 68) #[] #[.pointer (some ⟨b,0,none⟩)])) (hb:At w b 110 #[.map (some m)]) (hs:zaT w m k s) (hm:∀x,x∈s↔x∈on) :
  Calls Tryz.prog 69 #[.slice A n c,.pointer (some ⟨b2,0,none⟩)] w fun e w'=>e=.returned (.bool (l.all (fun x=>decide (x∈on))))/\Below w.heap.size w w':=by
 have HC:=zqh (zur l (fun x=>!decide (x∈s)) (fun W=>Below w.heap.size w W) (.pointer (some ⟨b,0,none⟩)) A n c w (qT _ _) (fun W z=>hl.next z)
  (fun W x z hx=>(zs6 (At.cell ((z.block _ hb.lt).trans hb) 0) (hs.kept (z.block _ hs.lt)) (zox (hlI x hx))).mono (fun e W' q=>⟨q.1,z.trans (q.2.mono z.size)⟩)))
 have HE:Hid ((!l.any (fun x=>!decide (x∈s)))=l.all (fun x=>decide (x∈on))):=zqh (by
  rw[List.all_eq_not_any_not]
  congr 2
  funext x
  rw[show decide (x∈s)=decide (x∈on) from by rw[qZ,qY,qY];exact hm x])
 obtain ⟨r,hr⟩:∃r,l.any (fun x=>!decide (x∈s))=r:=⟨_,rfl⟩
 rw[hr] at HC HE
 rw[<-HE.out]
 clear hl hlI hb hs hm hr
 go_enter Tryz.func69,Tryz.ntmps69
 go_wp2_with fail
 refine HC.out.mono ?_
 rintro e w1 ⟨rfl,hb1⟩
 have HB:=zqh hb1
 clear hb1
 cases r
 ·go_wp2_with fail
  go_ret
  exact ⟨rfl,HB.out⟩
 ·go_wp2_with fail
  go_ret
  exact ⟨rfl,HB.out⟩
theorem zrh (f:Fm) (on:List Int) (A B:Option Addr) (n c k d:Nat) (w:World) (h:zcF w (.slice A n c) f) (hon:zak w (.slice B k d) on) (hk20:on.length<=20000) :
  Calls Tryz.prog 40 #[.slice A n c,.slice B k d] w fun e w'=>e=.returned (.bool (fP (fun x=>decide (x∈on)) f))/\Below w.heap.size w w':=by
 have HF:=zqh h
 have HO:=zqh hon
 have hm:=h.max
 obtain rfl:=h.len
 obtain rfl:=hon.len
 obtain ⟨_,_,e0,_,_,hII,_⟩:=hon
 have HII:=zqh hII
 clear h e0 hII
 have hmm:=zjs on.length hk20
 go_enter Tryz.func40,Tryz.ntmps40
 go_wp2_with fail
 go_loopw [14] (fun v wr=>∃(j:Nat) (s:List Int),j<=on.length/\v=.int .i64 j/\Hid (Below w.heap.size w wr)/\Hid (zaT wr w.heap.size j s)/\Hid (∀x,x∈s↔x∈on.take j)/\Hid (At wr (w.heap.size+1) 110 #[.map (some w.heap.size)])) (fun v _=>on.length-(intOf v).toNat)
 case atStart =>
  refine ⟨0,[],qK _,rfl,zqh ((zqb).alloc (by simp) _),zqh ((zaT.made w).kept (yL _ _ _ (by simp))),zqh (fun x=>by simp),zqh ?_⟩
  have:=At.new (w.alloc (.map #[] 0)) 110 #[.map (some w.heap.size)]
  rwa [qV] at this
 case round =>
  clear hmm
  obtain ⟨j,s,hj,rfl,HB,HS,HM,HX⟩:=hrel
  by_cases hlt:j<on.length
  ·have g1:(0:Int)<=(j:Int):=by omega
   have g2:(j:Int)<(on.length:Int):=by omega
   obtain ⟨b,off,rfl,_,q0⟩:=(HO.out.next HB.out).at j hlt
   obtain ⟨x,hx⟩:∃x,zbi on j=x:=⟨_,rfl⟩
   rw[hx] at q0
   have HXe:Hid (on[j]=x):=zqh (by rw[<-hx,zay hlt])
   have cx:=HX.out.cell 0
   obtain ⟨w',hr,hs',hg'⟩:=HS.out.store (zox (HII.out x (by rw[<-HXe.out];exact qG hlt))) (by omega)
   have HS':=zqh hs'
   have HB':Hid (Below w.heap.size w w'):=zqh (HB.out.grown hg' HB.out.size (fun b e=>by injection e with e;omega))
   have HX':=zqh ((hg'.block (w.heap.size+1) HX.out.lt (fun e=>by injection e with e;omega)).trans HX.out)
   clear hx hs' hg'
   go_wp2_with fail
   refine ⟨⟨j+1,x::s,by omega,by go_num,HB',HS',zqh (fun y=>?_),HX'⟩,by simp[intOf];omega⟩
   rw[qW hlt,yO,kB,xG,HM.out y,HXe.out]
   exact Or.comm
  ·obtain rfl:j=on.length:=by omega
   have HMm:Hid (∀x,x∈s↔x∈on):=zqh (by have:=HM.out;rwa [qQ] at this)
   have hb1:=HB.out.alloc HB.out.size (.cells #[.func (.func 68) #[] #[.pointer (some ⟨w.heap.size+1,0,none⟩)]] 78)
   have hbw:=(qT wr.heap.size wr).alloc zqn (.cells #[.func (.func 68) #[] #[.pointer (some ⟨w.heap.size+1,0,none⟩)]] 78)
   have hA1:=At.new wr 78 #[.func (.func 68) #[] #[.pointer (some ⟨w.heap.size+1,0,none⟩)]]
   go_wp2_with fail
   generalize wr.alloc (.cells #[.func (.func 68) #[] #[.pointer (some ⟨w.heap.size+1,0,none⟩)]] 78)=W at hb1 hbw hA1 ⊢
   have hSW:zaT W w.heap.size on.length s:=HS.out.kept (hbw.block _ HS.out.lt)
   have hXW:At W (w.heap.size+1) 110 #[.map (some w.heap.size)]:=(hbw.block _ HX.out.lt).trans HX.out
   have hC:=zuk f (fun p=>p.all (fun x=>decide (x∈on))) (.pointer (some ⟨wr.heap.size,0,none⟩)) A _ c W (HF.out.next hb1) (fun w' hb l A2 n2 c2 hl hm=>by
    have hl0:=hl
    obtain ⟨_,_,_,_,_,hlI,_⟩:=hl0
    refine zs7 l on s A2 n2 c2 wr.heap.size (w.heap.size+1) w.heap.size on.length w' hl hlI ((hA1.below hb hA1.lt).cell 0) ((hb.block _ hXW.lt).trans hXW) (hSW.kept (hb.block _ hSW.lt)) HMm.out)
   have HC:=zqh hC
   have HB1:=zqh hb1
   clear hC hb1 hbw hA1 hSW hXW
   refine HC.out.mono ?_
   rintro e w3 ⟨rfl,hb3⟩
   have HB3:=zqh (HB1.out.trans (hb3.mono HB1.out.size))
   clear hb3
   go_wp2_with fail
   go_ret
   exact ⟨rfl,HB3.out⟩
end
end Go.Proofs.YtdmodhnhldbpnaaGreat
