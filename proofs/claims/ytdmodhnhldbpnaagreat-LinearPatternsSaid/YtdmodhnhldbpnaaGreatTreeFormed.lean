/- What tree's formedAlone, allFormed, sizeFrom, Size and Formed answer. -/
import Derived.Test.YtdmodhnhldbpnaaGreatProg
import Derived.Test.YtdmodhnhldbpnaaGreatMaa
import Derived.Test.YtdmodhnhldbpnaaGreatMzy
import Derived.Test.YtdmodhnhldbpnaaGreatMac
import Derived.Test.YtdmodhnhldbpnaaGreatMax
import Derived.Test.YtdmodhnhldbpnaaGreatMay
import Derived.Test.YtdmodhnhldbpnaaGreatAid
set_option linter.unusedSimpArgs false
set_option linter.unusedVariables false
set_option maxHeartbeats 4000000
set_option maxRecDepth 100000
namespace Go.Proofs.YtdmodhnhldbpnaaGreat
open Go.RowKit
def zuA (t:Tr):Bool:=decide (t.kind=2\/t.set.eqb St.nil=true)
def zq6 (t:Tr):Bool:=decide (t.kind=8\/t.kind=9\/t.neg=false)
theorem znR (t:Tr):zch t=(rpB t&&(rtB t&&(zuA t&&zq6 t))):=by
 unfold zch rpB rtB zuA zq6
 rw[<-Bool.decide_and,<-Bool.decide_and,<-Bool.decide_and]
 apply decide_eq_decide.2
 constructor
 ·rintro ⟨a,b,c,d,e,f⟩;exact ⟨⟨a,b⟩,⟨e,f⟩,c,d⟩
 ·rintro ⟨⟨a,b⟩,⟨e,f⟩,c,d⟩;exact ⟨a,b,c,d,e,f⟩
theorem zgW (t:Tr) (w:World) (hn:t.n=t.parts.length) (hl:t.parts.length<=9223372036854775807) :
  Calls Tryz.prog 117 #[.agg t.cs.toArray] w fun e w'=>e=.returned (.bool (zch t))/\Below w.heap.size w w':=by
 have hA:At (w.alloc (Obj.cells t.cs.toArray 49)) w.heap.size 49 t.cs.toArray:=At.new _ _ _
 have hB:Below w.heap.size w (w.alloc (Obj.cells t.cs.toArray 49)):=zqb
 have HO:=zqh (znR t)
 obtain ⟨p,hp⟩:∃p:Bool,rpB t=p:=⟨_,rfl⟩
 obtain ⟨r,hr⟩:∃r:Bool,rtB t=r:=⟨_,rfl⟩
 have HP:=zqh hp
 have HR:=zqh hr
 have HN:=zqh hn
 clear hp hr hn
 go_enter Tryz.func117,Tryz.ntmps117
 go_wp2_with (first | (refine jU rfl 49 _ rfl w.heap.size rfl 49 t.cs.toArray (0,0) _ hA Tryz.underlying49 rfl (by kernel_rfl) ?_) | fail)
 refine (zhm t _ HN.out hl).mono ?_
 rintro e w1 ⟨rfl,hb1⟩
 rw[HP.out]
 have hA:=hA.step hb1 rfl
 have hB:=zaf hB hb1 rfl rfl rfl rfl
 clear hb1
 cases p
 ·have HF:Hid (zch t=false):=by rw[HO.out,HP.out];exact rfl
  go_wp2_with fail
  go_ret
  exact ⟨zad HF.out.symm,hB⟩
 ·go_wp2_with (first | (refine zaa (by rfl) 49 _ rfl w.heap.size rfl 49 t.cs.toArray (0,0) _ hA Tryz.underlying49 rfl (by kernel_rfl) ?_) | fail)
  refine (zhn t _ HN.out hl).mono ?_
  rintro e w2 ⟨rfl,hb2⟩
  rw[HR.out]
  have hA:=hA.step hb2 rfl
  have hB:=zaf hB hb2 rfl rfl rfl rfl
  clear hb2
  cases r
  ·have HF:Hid (zch t=false):=by rw[HO.out,HP.out,HR.out];exact rfl
   go_wp2_with fail
   go_ret
   exact ⟨zad HF.out.symm,hB⟩
  ·have HO2:Hid (zch t=(zuA t&&zq6 t)):=by rw[HO.out,HP.out,HR.out];exact rfl
   obtain ⟨c0,c5,c6,c7,c8⟩:=At.tr_cell hA
   obtain ⟨s1,s2,s3,s4⟩:=At.tr_set hA
   have HA:=zqh hA
   clear hA c5 c6 c7
   have last:∀v:Bool,zuA t=v->Hid (zch t=(v&&zq6 t)):=fun v h=>by rw[HO2.out,h];exact rfl
   by_cases h2:t.kind=2
   ·have d2:=(zaq h2).1
    have d8:=(zab (show ¬t.kind=8 by omega)).1
    have d9:=(zab (show ¬t.kind=9 by omega)).1
    have HL:=last true (qD (Or.inl h2))
    obtain ⟨g,hg⟩:∃g:Bool,t.neg=g:=⟨_,rfl⟩
    have HG:Hid (zq6 t=!g):=zqh (by rw[<-hg];exact zm6 (by omega) (by omega))
    rw[hg] at c8
    clear hg h2 last
    cases g
    ·go_wp2_with fail
     go_ret
     exact ⟨zad (by rw[HL.out,HG.out];rfl),hB⟩
    ·go_wp2_with fail
     go_ret
     exact ⟨zad (by rw[HL.out,HG.out];rfl),hB⟩
   ·have d2:=(zab h2).1
    by_cases hs:t.set.eqb St.nil=true
    ·have ds:∀W,(Op.equalIn 10000 46 (.agg #[.int .u64 t.set.w0,.int .u64 t.set.w1,.int .u64 t.set.w2,.int .u64 t.set.w3]) (.agg #[.int .u64 0,.int .u64 0,.int .u64 0,.int .u64 0])).run Tryz.prog W=.ok true W:=fun W=>zf7 W t.set St.nil true hs
     have HL:=last true (qD (Or.inr hs))
     clear last hs h2
     by_cases h8:t.kind=8
     ·have d8:=(zaq h8).1
      have HG:Hid (zq6 t=true):=qD (Or.inl h8)
      clear h8
      go_wp2_with fail
      go_ret
      exact ⟨zad (by rw[HL.out,HG.out];rfl),hB⟩
     by_cases h9:t.kind=9
     ·have d8:=(zab h8).1
      have d9:=(zaq h9).1
      have HG:Hid (zq6 t=true):=qD (Or.inr (Or.inl h9))
      clear h8 h9
      go_wp2_with fail
      go_ret
      exact ⟨zad (by rw[HL.out,HG.out];rfl),hB⟩
     ·have d8:=(zab h8).1
      have d9:=(zab h9).1
      obtain ⟨g,hg⟩:∃g:Bool,t.neg=g:=⟨_,rfl⟩
      have HG:Hid (zq6 t=!g):=zqh (by rw[<-hg];exact zm6 h8 h9)
      rw[hg] at c8
      clear hg h8 h9
      cases g
      ·go_wp2_with fail
       go_ret
       exact ⟨zad (by rw[HL.out,HG.out];rfl),hB⟩
      ·go_wp2_with fail
       go_ret
       exact ⟨zad (by rw[HL.out,HG.out];rfl),hB⟩
    ·have hs':t.set.eqb St.nil=false:=by simpa using hs
     have ds:∀W,(Op.equalIn 10000 46 (.agg #[.int .u64 t.set.w0,.int .u64 t.set.w1,.int .u64 t.set.w2,.int .u64 t.set.w3]) (.agg #[.int .u64 0,.int .u64 0,.int .u64 0,.int .u64 0])).run Tryz.prog W=.ok false W:=fun W=>zf7 W t.set St.nil false hs'
     have HL:=last false (qE (fun q=>by rcases q with q | q;exact h2 q;exact hs q))
     clear last hs hs' h2
     go_wp2_with fail
     go_ret
     exact ⟨zad (by rw[HL.out];rfl),hB⟩
def zka (k:Nat):Prop:=∀(t:Tr) (w:World),Tr.In w k t->Calls Tryz.prog 79 #[.agg t.cs.toArray] w fun e w'=>e=.returned (.bool (zah k t))/\Below w.heap.size w w'
theorem zfh:∀k,zka k
 | 0=>fun _ _ h=>h.elim
 | k+1=>fun t w h=>by
  have hlen:t.parts.length<=9223372036854775807:=by have:=h.2.1;omega
  have HN:=zqh h.2.1.1
  have HI:=zqh h
  have HIH:=zqh (zfh k)
  clear h
  have hA:At (w.alloc (Obj.cells t.cs.toArray 49)) w.heap.size 49 t.cs.toArray:=At.new _ _ _
  have hB:Below w.heap.size w (w.alloc (Obj.cells t.cs.toArray 49)):=zqb
  obtain ⟨o,ho⟩:∃o:Bool,zch t=o:=⟨_,rfl⟩
  have HO:=zqh ho
  clear ho
  go_enter Tryz.func79,Tryz.ntmps79
  go_wp2_with (first | (refine jU rfl 49 _ rfl w.heap.size rfl 49 t.cs.toArray (0,0) _ hA Tryz.underlying49 rfl (by kernel_rfl) ?_) | fail)
  refine (zgW t _ HN.out hlen).mono ?_
  rintro e w1 ⟨rfl,hb1⟩
  rw[HO.out]
  have hA:=hA.step hb1 rfl
  have hB:=zaf hB hb1 rfl rfl rfl rfl
  clear hb1
  cases o
  ·go_wp2_with fail
   go_ret
   exact ⟨zad (zaj HO.out).symm,hB⟩
  ·have HA:=zqh hA
   have HB:=zqh hB
   have c5:=(At.tr_cell hA).2.1
   rw[HN.out] at c5
   clear hA hB
   go_wp2_with fail
   go_loopw [11] (fun i wr=>∃j:Nat,j<=t.parts.length/\i=.int .i64 j/\Hid (zbu k t j=true)/\Hid (At wr w.heap.size 49 t.cs.toArray)/\Hid (Below w.heap.size w wr)) (fun i _=>t.parts.length-(intOf i).toNat)
   case atStart=>exact ⟨0,qK _,rfl,zqh (zbb _),HA,HB⟩
   case round =>
    clear HA HB c5
    obtain ⟨j,hj,rfl,hT,hA,hB⟩:=hrel
    by_cases hlt:j<t.parts.length
    ·obtain ⟨b,off,ha,hb,hr⟩:=HI.out.2.2.1 (by rw[HN.out];omega)
     have HR:=zqh (zaE (hr j hlt) hb zqn hB.out)
     have HP:=zqh (Tr.In.next (HI.out.2.2.2 j hlt) hB.out)
     have hA2:=zfE wr t.parts[j]
     have HP2:=zqh (HP.out.next (zbG wr t.parts[j]))
     clear hr hb
     rw[ha]
     clear ha
     have hjz:(0:Int)<=(j:Int):=by omega
     have hjn:(j:Int)<(t.parts.length:Int):=by omega
     obtain ⟨v,hv⟩:∃v:Bool,zah k t.parts[j]=v:=⟨_,rfl⟩
     have HV:=zqh hv
     clear hv
     go_wp2_with (first
      |(refine wpList_load_mid rfl 49 _ rfl b (off+j*9) rfl t.parts[j].cs _ HR.out Tryz.underlying49 rfl (by rw[Tr.cs_length];kernel_rfl) ?_)
      |(refine qN rfl 49 _ _ rfl wr.heap.size t.parts[j].cs.toArray rfl rfl 49 Tr.blank.cs.toArray (At.new _ _ _) (by kernel_rfl) rfl (Tr.one _) ?_;change Exit.then _ _ _ _ (zjT wr t.parts[j]))
      |(refine jU rfl 49 _ rfl wr.heap.size rfl 49 t.parts[j].cs.toArray (0,0) _ hA2 Tryz.underlying49 rfl (by kernel_rfl) ?_) | fail)
     refine (HIH.out t.parts[j] _ HP2.out).mono ?_
     rintro e w3 ⟨rfl,hb3⟩
     rw[HV.out]
     have HBx:=zd8 hB.out t.parts[j]
     have HA:=zqh ((hA.out.below (zbG wr t.parts[j]) hA.out.lt).below hb3 (by rw[ze3];have:=hA.out.lt;omega))
     have HB:=zqh (HBx.trans (hb3.mono HBx.size))
     clear hb3 hA2 HBx
     cases v
     ·go_wp2_with fail
      go_ret
      exact ⟨zad (zcj hlt HV.out).symm,HB.out⟩
     ·go_wp2_with fail
      exact ⟨⟨j+1,by omega,by go_num,zqh (zbK hlt hT.out HV.out),HA,HB⟩,by simp[intOf];omega⟩
    ·obtain rfl:j=t.parts.length:=by omega
     have HF:=zqh (zbC HO.out hT.out)
     go_wp2_with fail
     go_ret
     exact ⟨zad HF.out.symm,hB.out⟩
end Go.Proofs.YtdmodhnhldbpnaaGreat
