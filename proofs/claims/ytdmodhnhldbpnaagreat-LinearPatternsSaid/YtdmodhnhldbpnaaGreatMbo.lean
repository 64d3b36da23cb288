/- Joined: LwOnce, LwForm. -/
import Derived.Test.YtdmodhnhldbpnaaGreatMbm
import Derived.Test.YtdmodhnhldbpnaaGreatMbn
import Derived.Test.YtdmodhnhldbpnaaGreatAid
/- once of package linear. -/
set_option linter.unusedSimpArgs false
set_option linter.unusedVariables false
set_option maxHeartbeats 8000000
set_option maxRecDepth 100000
namespace Go.Proofs.YtdmodhnhldbpnaaGreat
section
open Go.RowKit
theorem za9.many {p:LP} {w w1:World} {ns:List Nd} {F:Nat->Prop} {many:Bool} {R R':List Nd->Fm->Prop} {e:Ending} (hm:many=true) (h:za9 p w ns F many R e w1):za9 p w ns F many R' e w1:=by
 obtain ⟨v,f,ns1,F1,many1,h0,h1,h2,h3,h4⟩:=h
 exact ⟨v,f,ns1,F1,many1,h0,h1,h2,h3,fun q=>by rw[h1.mono hm] at q;cases q⟩
theorem zaJ.zero {X:Nat->Prop} {w:World}:zaJ X w (.slice none 0 0) []:=fun w' _=>⟨none,0,rfl,qL _,by omega,fun q=>absurd q (jM _)⟩
theorem zas.keepsL {X:Nat->Prop} {w:World} {base:Nat} {v:Value} {l:List Int} (h:zas w base v l) (hX:∀b,X b->b<base) (hI:∀x∈l,IsI x) (hn:l.length<=20000):zbP X w v l:=fun w' ho=>by
 obtain ⟨h1,h2⟩:=id h
 rcases h2 with ⟨rfl,q⟩ | ⟨g,cap,cur,rfl,hb,hc,r1,r2,r3,r4⟩
 ·have hl:=qU q
  subst hl
  exact ⟨none,0,rfl,qL _,(by omega),(fun x hx=>by cases hx),fun q=>absurd q (jM _)⟩
 ·obtain ⟨lt1,lt2⟩:=World.ownsRow.lt h g rfl
  have hcg:w'.heap[g]?=some (.cells cur 3 (0,0)):=(ho.block g lt2 (fun q=>by have:=hX g q;omega)).trans hc
  have hca:cap<=9223372036854775807:=by unfold maxLen at r2;omega
  refine ⟨_,_,rfl,r1,hca,hI,fun h0=>⟨g,0,rfl,qM lt2 ho.size,fun j hj=>?_⟩⟩
  obtain ⟨g',cap',e',hcell⟩:=zas.form h h0
  injection e' with e1 _ _
  injection e1 with e1
  injection e1 with e1 _ _
  subst e1
  have:=hcell j hj
  rw[yH,zay hj]
  unfold World.cell? at this ⊢
  rw[hcg]
  rw[hc] at this
  exact this
def rk (ns:List Nd) (x:Int):Nat:=if kd ns x=6 then 2*(ka ns x).toNat+1 else 2*x.toNat
theorem zum {ns:List Nd} (hf:zaA ns) {x:Int} (hx:zac ns x):rk ns x<=2*x.toNat:=by
 unfold rk
 by_cases k:kd ns x=6
 ·rw[if_pos k]
  obtain ⟨a0,a1⟩:=zbT hf hx (by omega)
  unfold zac at a0 hx
  omega
 ·rw[if_neg k];omega
section
variable {p:LP} {w:World} {ns:List Nd} {F:Nat->Prop} {many:Bool}
theorem LW.storeFo (h:LW p w ns F many) {x:Int} (hx:zac ns x) {v:Value} {f:Fm} (hk:zaJ (XY p F) w v f) (hi:zbf (Ls ns) f) (hR:many=false->OfR ns x ns f):∃w',(Instr.mapUpdate 98 (.map (some p.mf)) (.int .i64 x) v).run Tryz.prog w=.ok () w'/\za8 p w ns F many w' ns F many:=by
 obtain ⟨s,get,k1,k2⟩:=h.fo.ex
 have hmx:=h.few
 have hxI:I64 x:=by unfold zac at hx;unfold I64;omega
 have hsl:=zbd (n:=ns.length) k1.nodup (fun z hz=>(k2 z hz).1)
 obtain ⟨w',r1,r2,r3⟩:=k1.store hxI v (by omega)
 have ho:=h.off1 r3 (Or.inr (Or.inr (Or.inl rfl)))
 obtain ⟨d1,d2,d3,d4,d5,d6⟩:=h.d
 obtain ⟨l1,l2,l3,l4⟩:=h.lts
 have hb:∀b,b<w.heap.size->b≠p.mf->w'.heap[b]?=w.heap[b]?:=fun b h1 h2=>r3.block b h1 (fun e=>by injection e with e;exact h2 e)
 obtain ⟨s3,n1,n2⟩:=h.nu
 have hnew:zki (XY p F) w' p.mf ns many (fun x f=>OfR ns x ns f):=⟨_,_,r2,fun y hy=>by
  by_cases e:y=x
  ·subst e
   exact ⟨hx,f,by rw[if_pos rfl];exact hk.step ho.xy (fun b q=>Or.inl q),hi,hR⟩
  ·have hys:y∈s:=by
    by_cases e2:x∈s
    ·rw[if_pos e2] at hy;exact hy
    ·rw[if_neg e2] at hy;exact (List.mem_cons.1 hy).resolve_left e
   obtain ⟨q1,g,q2,q3,q4⟩:=k2 y hys
   exact ⟨q1,g,by rw[if_neg e];exact q2.step ho.xy (fun b q=>Or.inl q),q3,q4⟩⟩
 exact ⟨w',r1,⟨[],(jA _).symm⟩,⟨h.ar.keep (fun b q=>hb b (h.ar.low b q) (fun e=>h.out.2.1 (by rw[<-e];exact q))),(hb _ l1 d1).trans h.box,hnew,h.le.same (hb _ l3 (fun e=>d4 e.symm)) ho.xy,⟨s3,n1.kept (hb _ l4 (fun e=>d5 e.symm)),n2⟩,h.d,h.out,h.b8,fun b q=>qM (h.ylow b q) ho.size⟩,fun b q=>Or.inl q,ho,id⟩
theorem zsW (id:Int) (hid:I64 id) (h:LW p w ns F many) (hin:zac ns id\/(many=true/\¬zac ns id)) (hof:many=false->Calls Tryz.prog 62 #[.pointer (some ⟨p.gw,0,none⟩),.int .i64 id] w (za9 p w ns F many fun ms f=>OfR ns id ms f)) :
  Calls Tryz.prog 61 #[.pointer (some ⟨p.gw,0,none⟩),.map (some p.mf),.int .i64 id,.func (.func 62) #[.pointer (some ⟨p.gw,0,none⟩)] #[]] w (za9 p w ns F many fun ms f=>OfR ns id ms f):=by
 obtain ⟨s,get,k1,k2⟩:=h.fo.ex
 have hlk:=k1.look hid
 have HW:=zqh h
 have c7:=h.cells.2.2.2.2.2.2.2
 by_cases hs:id∈s
 ·obtain ⟨hi,f,hk,hfi,hR⟩:=k2 id hs
  obtain ⟨A,c,hv⟩:=hk.at
  rw[if_pos hs,qD hs,hv] at hlk
  rw[hv] at hk
  have HK:=zqh hk
  have HI:=zqh hfi
  have HR:=zqh hR
  clear h hin hof k1 k2 hs hi hv hk hfi hR
  go_enter Tryz.func61,Tryz.ntmps61
  go_wp2_with fail
  go_ret
  exact za9.done (za8.refl HW.out) HK.out HI.out (fun q=>HR.out q)
 rw[if_neg hs,qE hs] at hlk
 cases many
 ·have HIn:Hid (zac ns id):=zqh (hin.resolve_right (fun q=>by cases q.1))
  have HC:=zqh (hof rfl)
  clear h hin hof k1 k2 hs
  go_enter Tryz.func61,Tryz.ntmps61
  go_wp2_with fail
  refine HC.out.mono ?_
  rintro e w3 ⟨v3,f,ns3,F3,many3,rfl,hg3,hk3,hi3,hd3⟩
  obtain ⟨A3,c3,hv3⟩:=hk3.at
  subst hv3
  obtain ⟨w4,hr4,hg4⟩:=hg3.lw.storeFo (hg3.isIn HIn.out) hk3 hi3 (fun q=>by
   have h1:=hd3 q
   obtain ⟨m,rfl⟩:=hg3.more
   unfold OfR at h1 ⊢
   rw[zez HIn.out]
   exact h1)
  have HG4:=zqh (hg3.trans hg4)
  have HK4:=zqh (hk3.grow hg4)
  have HI4:=zqh hi3
  have HD4:=zqh hd3
  clear hg3 hk3 hi3 hd3 hg4
  go_wp2_with fail
  go_ret
  exact za9.done HG4.out HK4.out HI4.out HD4.out
 ·clear h hin hof k1 k2 hs
  go_enter Tryz.func61,Tryz.ntmps61
  go_wp2_with fail
  go_ret
  exact za9.done (za8.refl HW.out) zaJ.zero (zbf.nil _) (fun q=>by cases q)
theorem zmm (id:Int) (hid:I64 id) (h:LW p w ns F many) (hin:zac ns id\/(many=true/\¬zac ns id)) (hof:many=false->Calls Tryz.prog 62 #[.pointer (some ⟨p.gw,0,none⟩),.int .i64 id] w (za9 p w ns F many fun ms f=>OfR ns id ms f)) :
  Calls Tryz.prog 27 #[.pointer (some ⟨p.gw,0,none⟩),.int .i64 id] w (za9 p w ns F many fun ms f=>OfR ns id ms f):=by
 have HC:=zqh (zsW id hid h hin hof)
 have cm:=h.cells.2.2.2.1
 clear h hin hof
 go_enter Tryz.func27,Tryz.ntmps27
 go_wp2_with fail
 refine HC.out.mono ?_
 rintro e w3 ⟨v3,f,ns3,F3,many3,rfl,hg3,hk3,hi3,hd3⟩
 obtain ⟨A3,c3,hv3⟩:=hk3.at
 subst hv3
 have HG:=zqh hg3
 have HK:=zqh hk3
 have HI:=zqh hi3
 have HD:=zqh hd3
 clear hg3 hk3 hi3 hd3
 go_wp2_with fail
 go_ret
 exact za9.done HG.out HK.out HI.out HD.out
theorem LW.storeLe (h:LW p w ns F many) {x:Int} (hx:zac ns x) {v:Value} {f:Fm} (hk:zaJ (XY p F) w v f) (hi:zbf (Ls ns) f) (hR:many=false->zbF ns x p.b p.bt ns f):∃w',(Instr.mapUpdate 98 (.map (some p.ml)) (.int .i64 x) v).run Tryz.prog w=.ok () w'/\za8 p w ns F many w' ns F many:=by
 obtain ⟨s,get,k1,k2⟩:=h.le.ex
 have hmx:=h.few
 have hxI:I64 x:=by unfold zac at hx;unfold I64;omega
 have hsl:=zbd (n:=ns.length) k1.nodup (fun z hz=>(k2 z hz).1)
 obtain ⟨w',r1,r2,r3⟩:=k1.store hxI v (by omega)
 have ho:=h.off1 r3 (Or.inr (Or.inr (Or.inr (Or.inl rfl))))
 obtain ⟨d1,d2,d3,d4,d5,d6⟩:=h.d
 obtain ⟨l1,l2,l3,l4⟩:=h.lts
 have hb:∀b,b<w.heap.size->b≠p.ml->w'.heap[b]?=w.heap[b]?:=fun b h1 h2=>r3.block b h1 (fun e=>by injection e with e;exact h2 e)
 obtain ⟨s3,n1,n2⟩:=h.nu
 have hnew:zki (XY p F) w' p.ml ns many (fun x f=>zbF ns x p.b p.bt ns f):=⟨_,_,r2,fun y hy=>by
  by_cases e:y=x
  ·subst e
   exact ⟨hx,f,by rw[if_pos rfl];exact hk.step ho.xy (fun b q=>Or.inl q),hi,hR⟩
  ·have hys:y∈s:=by
    by_cases e2:x∈s
    ·rw[if_pos e2] at hy;exact hy
    ·rw[if_neg e2] at hy;exact (List.mem_cons.1 hy).resolve_left e
   obtain ⟨q1,g,q2,q3,q4⟩:=k2 y hys
   exact ⟨q1,g,by rw[if_neg e];exact q2.step ho.xy (fun b q=>Or.inl q),q3,q4⟩⟩
 exact ⟨w',r1,⟨[],(jA _).symm⟩,⟨h.ar.keep (fun b q=>hb b (h.ar.low b q) (fun e=>h.out.2.2.1 (by rw[<-e];exact q))),(hb _ l1 d2).trans h.box,h.fo.same (hb _ l2 d4) ho.xy,hnew,⟨s3,n1.kept (hb _ l4 (fun e=>d6 e.symm)),n2⟩,h.d,h.out,h.b8,fun b q=>qM (h.ylow b q) ho.size⟩,fun b q=>Or.inl q,ho,id⟩
theorem zsX (id:Int) (hid:I64 id) (h:LW p w ns F many) (hin:zac ns id\/(many=true/\¬zac ns id)) (hof:many=false->Calls Tryz.prog 77 #[.pointer (some ⟨p.gw,0,none⟩),.int .i64 id] w (za9 p w ns F many fun ms f=>zbF ns id p.b p.bt ms f)) :
  Calls Tryz.prog 61 #[.pointer (some ⟨p.gw,0,none⟩),.map (some p.ml),.int .i64 id,.func (.func 77) #[.pointer (some ⟨p.gw,0,none⟩)] #[]] w (za9 p w ns F many fun ms f=>zbF ns id p.b p.bt ms f):=by
 obtain ⟨s,get,k1,k2⟩:=h.le.ex
 have hlk:=k1.look hid
 have HW:=zqh h
 have c7:=h.cells.2.2.2.2.2.2.2
 by_cases hs:id∈s
 ·obtain ⟨hi,f,hk,hfi,hR⟩:=k2 id hs
  obtain ⟨A,c,hv⟩:=hk.at
  rw[if_pos hs,qD hs,hv] at hlk
  rw[hv] at hk
  have HK:=zqh hk
  have HI:=zqh hfi
  have HR:=zqh hR
  clear h hin hof k1 k2 hs hi hv hk hfi hR
  go_enter Tryz.func61,Tryz.ntmps61
  go_wp2_with fail
  go_ret
  exact za9.done (za8.refl HW.out) HK.out HI.out (fun q=>HR.out q)
 rw[if_neg hs,qE hs] at hlk
 cases many
 ·have HIn:Hid (zac ns id):=zqh (hin.resolve_right (fun q=>by cases q.1))
  have HC:=zqh (hof rfl)
  clear h hin hof k1 k2 hs
  go_enter Tryz.func61,Tryz.ntmps61
  go_wp2_with fail
  refine HC.out.mono ?_
  rintro e w3 ⟨v3,f,ns3,F3,many3,rfl,hg3,hk3,hi3,hd3⟩
  obtain ⟨A3,c3,hv3⟩:=hk3.at
  subst hv3
  obtain ⟨w4,hr4,hg4⟩:=hg3.lw.storeLe (hg3.isIn HIn.out) hk3 hi3 (fun q=>by
   have h1:=hd3 q
   obtain ⟨m,rfl⟩:=hg3.more
   unfold zbF at h1 ⊢
   rw[zez HIn.out]
   exact h1)
  have HG4:=zqh (hg3.trans hg4)
  have HK4:=zqh (hk3.grow hg4)
  have HI4:=zqh hi3
  have HD4:=zqh hd3
  clear hg3 hk3 hi3 hd3 hg4
  go_wp2_with fail
  go_ret
  exact za9.done HG4.out HK4.out HI4.out HD4.out
 ·clear h hin hof k1 k2 hs
  go_enter Tryz.func61,Tryz.ntmps61
  go_wp2_with fail
  go_ret
  exact za9.done (za8.refl HW.out) zaJ.zero (zbf.nil _) (fun q=>by cases q)
theorem zsY (id:Int) (hid:I64 id) (h:LW p w ns F many) (hin:zac ns id\/(many=true/\¬zac ns id)) (hof:many=false->Calls Tryz.prog 77 #[.pointer (some ⟨p.gw,0,none⟩),.int .i64 id] w (za9 p w ns F many fun ms f=>zbF ns id p.b p.bt ms f)) :
  Calls Tryz.prog 44 #[.pointer (some ⟨p.gw,0,none⟩),.int .i64 id] w (za9 p w ns F many fun ms f=>zbF ns id p.b p.bt ms f):=by
 have HC:=zqh (zsX id hid h hin hof)
 have cm:=h.cells.2.2.2.2.1
 clear h hin hof
 go_enter Tryz.func44,Tryz.ntmps44
 go_wp2_with fail
 refine HC.out.mono ?_
 rintro e w3 ⟨v3,f,ns3,F3,many3,rfl,hg3,hk3,hi3,hd3⟩
 obtain ⟨A3,c3,hv3⟩:=hk3.at
 subst hv3
 have HG:=zqh hg3
 have HK:=zqh hk3
 have HI:=zqh hi3
 have HD:=zqh hd3
 clear hg3 hk3 hi3 hd3
 go_wp2_with fail
 go_ret
 exact za9.done HG.out HK.out HI.out HD.out
end
end

section
open Go.RowKit
def ztf (n:Nat):Prop:=∀(p:LP) {w:World} {ns:List Nd} {F:Nat->Prop} {many:Bool} (id:Int),I64 id->(zac ns id/\rk ns id<=n)\/(many=true/\¬zac ns id)->LW p w ns F many->Calls Tryz.prog 27 #[.pointer (some ⟨p.gw,0,none⟩),.int .i64 id] w (za9 p w ns F many fun ms f=>OfR ns id ms f)
theorem zsZ {ns m:List Nd} {id r:Int} (hf:zaA (ns++m)) (hin:zac ns id) (ri:zac (ns++m) r) (hn:zqH (ns++m) id r) {ms:List Nd} {f:Fm} (h:OfR (ns++m) r ms f):Den V0 0 (zhh ns id) ms f:=Den.val (show Den V0 0 (zeK (ns++m) r) ms f from h) (fun l bits i j hv=>by
 rw[<-zjQ hin m]
 by_cases k:kd (ns++m) id=6
 ·have h1:=zd7 hf (hin.up m) k l bits hv.2.1
  rw[hn.2.1 k]
  unfold zeK zhh at *
  rw[h1,Bool.not_not]
 ·obtain ⟨k1,k2⟩:=hn.2.2 k
  have h1:=zd7 hf ri k1 l bits hv.2.1
  rw[k2] at h1
  exact h1)
theorem zcg {ns:List Nd} {x:Int} (hn:ns.length<=20000) (h:zac ns x):I64 x:=by unfold zac at h;unfold I64;omega
theorem zcp {ns:List Nd} {x:Int} (hn:ns.length<=20000) (h:zac ns x):IsI x:=by unfold zac at h;unfold IsI;omega
section
variable {p:LP} {w:World} {ns:List Nd} {F:Nat->Prop} {many:Bool}
theorem zrf {n:Nat} (IH:ztf n) (id:Int) (hn:2*id.toNat+1<=n) (h:LW p w ns F many) (hin:zac ns id) :
  Calls Tryz.prog 114 #[.pointer (some ⟨p.gw,0,none⟩),.int .i64 id] w (za9 p w ns F many fun ms f=>Den V0 0 (zhh ns id) ms f):=by
 have HN:=zqh (zuW zd9 id h.ar hin)
 obtain ⟨gp,hgp⟩:=zar.ptr h.ar
 have HP:=zqh hgp
 have HW:=zqh h
 have HI:=zqh hin
 have HIH:=zqh IH
 have c0:=h.cells.1
 rw[hgp] at c0 HN
 clear h hin hgp IH
 go_enter Tryz.func114,Tryz.ntmps114
 go_wp2_with fail
 refine HN.out.mono ?_
 rintro e w1 g
 rw[<-HP.out] at g
 obtain ⟨r,ns1,F1,rfl,g1,g2⟩:=Got.grow HW.out g
 have HG1:=zqh g1
 have HFt:=zqh (zmk g1.lw r)
 have HR:=zqh g2
 clear g g1 g2
 go_wp2_with fail
 refine HFt.out.mono ?_
 rintro e w2 ⟨rfl,g2⟩
 have HG2:=zqh (HG1.out.trans g2)
 have HC:Hid (Calls Tryz.prog 27 #[.pointer (some ⟨p.gw,0,none⟩),.int .i64 r] w2 (za9 p w2 ns1 F1 (many||decide (r<0)) fun ms f=>Den V0 0 (zhh ns id) ms f)):=zqh (by
  rcases HR.out with hr | ⟨ri,hnr⟩
  ·subst hr
   exact (HIH.out p (-1) (by unfold I64;omega) (Or.inr ⟨by simp,by unfold zac;omega⟩) g2.lw).mono (fun e w q=>za9.many (by simp) q)
  ·have hfi:=g2.lw.fine
   have hfw:=g2.lw.few
   have hrk:rk ns1 r<=n:=by
    have h0:=HI.out
    have h1:=HG1.out.isIn HI.out
    by_cases k:kd ns1 id=6
    ·have:=hnr.2.1 k
     have h2:=zum hfi ri
     obtain ⟨a0,a1⟩:=zbT hfi h1 (by omega)
     rw[<-this] at a0 a1
     unfold zac at a0 h0
     omega
    ·obtain ⟨k1,k2⟩:=hnr.2.2 k
     unfold rk
     rw[if_pos k1,k2]
     exact hn
   obtain ⟨m,rfl⟩:=HG1.out.more
   exact (HIH.out p r (zcg hfw ri) (Or.inl ⟨ri,hrk⟩) g2.lw).mono (fun e w q=>q.mono (fun more f _ _ hR=>zsZ hfi HI.out ri hnr hR)))
 clear g2
 go_wp2_with fail
 refine HC.out.mono ?_
 rintro e w3 ⟨v3,f,ns3,F3,many3,rfl,hg3,hk3,hi3,hd3⟩
 obtain ⟨A3,c3,hv3⟩:=hk3.at
 subst hv3
 have HG:=zqh (HG2.out.trans hg3)
 have HK:=zqh hk3
 have HI3:=zqh hi3
 have HD:=zqh hd3
 clear hg3 hk3 hi3 hd3
 go_wp2_with fail
 go_ret
 exact za9.done HG.out HK.out HI3.out HD.out
theorem zjr {n:Nat} (IH:∀k,k<n->ztf k) (ms:List Int) (hm:∀y∈ms,zac ns y/\2*y.toNat<n) (hw:ns.length<=20000):zlh p w ns F many 27 (fun x=>#[.pointer (some ⟨p.gw,0,none⟩),.int .i64 x]) ms V0 0 (zeK ns):=fun y' w1 ns1 F1 many1 y hy g=>by
 obtain ⟨h1,h2⟩:=hm y hy
 have hr:=zum g.lw.fine (g.isIn h1)
 refine (IH _ h2 {p with y:=y'} y (zcg hw h1) (Or.inl ⟨g.isIn h1,hr⟩) g.lw).mono (fun e w q=>q.mono (fun more f _ _ hR=>?_))
 obtain ⟨m,rfl⟩:=g.more
 exact OfR.from hR h1
theorem zhP {n:Nat} (IH:∀k,k<n->ztf k) (ms:List Int) (hm:∀y∈ms,zac ns y/\2*y.toNat+1<n):zlh p w ns F many 114 (fun x=>#[.pointer (some ⟨p.gw,0,none⟩),.int .i64 x]) ms V0 0 (zhh ns):=fun y' w1 ns1 F1 many1 y hy g=>by
 obtain ⟨h1,h2⟩:=hm y hy
 refine (zrf (p:={p with y:=y'}) (IH _ h2) y zqn g.lw (g.isIn h1)).mono (fun e w q=>q.mono (fun more f _ _ hR=>?_))
 obtain ⟨m,rfl⟩:=g.more
 rw[zjQ h1] at hR
 exact hR
theorem zun {n:Nat} (IH:∀k,k<n->ztf k) (id x:Int) (h:LW p w ns F many) (hin:zac ns id) (hk:kd ns id=6) (hx:ka ns id=x) (hr:2*x.toNat+1<=n) :
  Calls Tryz.prog 96 #[.pointer (some ⟨p.gw,0,none⟩),.int .i64 id,.int .i64 x] w (za9 p w ns F many fun ms f=>OfR ns id ms f):=by
 have HI:=zqh hin
 have HX:Hid (zac ns x):=zqh (by rw[<-hx];exact (zbT h.fine hin (by omega)).1)
 have HKi:Hid (kd ns id=6/\ka ns id=x):=zqh ⟨hk,hx⟩
 clear hin hk hx
 have HW:=zqh h
 have HIH:=zqh IH
 obtain ⟨gp,hgp⟩:=zar.ptr h.ar
 have HN:=zqh (zar.node x h.ar (zcg h.few HX.out))
 rw[show decide (0<=x/\x<(ns.length:Int))=true from qD HX.out] at HN
 have c0:=h.cells.1
 rw[hgp] at c0 HN
 have HFi:=zqh h.fine
 have HFw:=zqh h.few
 clear h IH hgp
 go_enter Tryz.func96,Tryz.ntmps96
 go_wp2_with fail
 refine HN.out.mono ?_
 rintro e w3 ⟨u,rfl,hu,hb3,_⟩
 have hu:=hu HX.out
 have HK:Hid (kd ns x=u.kind/\ka ns x=u.a/\kb ns x=u.b):=zqh ⟨by unfold kd;rw[<-hu],by unfold ka;rw[<-hu],by unfold kb;rw[<-hu]⟩
 have HU:=zqh hu
 have HXb:=zqh (zbq w3 u)
 have HG:=zqh (za8.of HW.out (hb3.trans ((zaN w3 u).mono hb3.size)))
 have hone:=Nd.one u
 have ck:=(Nd.cells HXb.out).1
 have cA:=(Nd.cells HXb.out).2.2.2.2.2.1
 clear hu hb3
 by_cases hk0:u.kind=0
 ·have HKd:=zqh hk0
  rw[hk0] at ck
  clear hk0
  have HC:=zqh (zvi (zaD w3 u))
  go_wp2_with (first
   |(with_reducible show wpList _ _ _ (⟨none,.store 61 _ _,_,_,_,_⟩::_) _ _
     refine qN rfl 61 _ _ rfl w3.heap.size u.cs.toArray rfl rfl 61 Nd.zero.cs.toArray (At.new _ _ _) (by kernel_rfl) rfl hone ?_
     first | change wpList _ _ _ _ _ (zaD w3 u) | change Exit.then _ _ _ _ (zaD w3 u))
   |(with_reducible show wpList _ _ _ (⟨_,.load 61 _,_,_,_,_⟩::_) _ _
     refine zaa (by rfl) 61 _ rfl w3.heap.size rfl 61 u.cs.toArray (0,0) _ HXb.out Tryz.underlying61 rfl (by rw[qO,Nd.cs_length];kernel_rfl) ?_)
   | fail)
  refine HC.out.mono ?_
  rintro e w5 ⟨A5,c5,rfl,hf5,hb5⟩
  have HK5:=zqh (zaZ.keeps HG.out.lw hf5)
  have HG5:=zqh (HG.out.next hb5)
  clear hf5 hb5
  go_wp2_with fail
  go_ret
  exact za9.done HG5.out HK5.out (zbf.true _) (fun q=>zto HFi.out HI.out HKi.out.1 (by rw[HKi.out.2,HK.out.1];exact HKd.out))
 have hb0:=(zab hk0).1
 clear hk0
 by_cases hk4:u.kind=4
 ·have HKd:=zqh hk4
  rw[hk4] at ck
  clear hk4 hb0
  obtain ⟨⟨ia,la⟩,ib,lb⟩:=zaK HFi.out HX.out (by rw[HK.out.1];have:=HKd.out;omega)
  rw[HK.out.2.1] at ia la
  rw[HK.out.2.2] at ib lb
  have HM:=zqh (zef 4 (by omega) HG.out.lw u HKd.out ia ib)
  have HMm:Hid (∀y,(y∈mem ns 4 u.a\/y∈mem ns 4 u.b)->zac ns y/\y<x):=zqh (fun y hy=>by
   rcases hy with hy | hy
   ·obtain ⟨q1,q2,_⟩:=zcs HFi.out (by omega) _ u.a zqn ia y hy
    exact ⟨q1,by omega⟩
   ·obtain ⟨q1,q2,_⟩:=zcs HFi.out (by omega) _ u.b zqn ib y hy
    exact ⟨q1,by omega⟩)
  clear ia la ib lb
  go_wp2_with (first
   |(with_reducible show wpList _ _ _ (⟨none,.store 61 _ _,_,_,_,_⟩::_) _ _
     refine qN rfl 61 _ _ rfl w3.heap.size u.cs.toArray rfl rfl 61 Nd.zero.cs.toArray (At.new _ _ _) (by kernel_rfl) rfl hone ?_
     first | change wpList _ _ _ _ _ (zaD w3 u) | change Exit.then _ _ _ _ (zaD w3 u))
   |(with_reducible show wpList _ _ _ (⟨_,.load 61 _,_,_,_,_⟩::_) _ _
     refine zaa (by rfl) 61 _ rfl w3.heap.size rfl 61 u.cs.toArray (0,0) _ HXb.out Tryz.underlying61 rfl (by rw[qO,Nd.cs_length];kernel_rfl) ?_)
   | fail)
  refine HM.out.mono ?_
  rintro e w5 ⟨v5,ms,rfl,hr5,hnd,hmm,hb5⟩
  have hin5:∀y∈ms,zac ns y/\y<x:=fun y hy=>HMm.out y ((hmm y).1 hy)
  have hms:∀y,y∈ms↔y∈mem ns 4 x:=fun y=>by
   rw[hmm y,zbV HFi.out (by omega) HX.out (by rw[HK.out.1];exact HKd.out),HK.out.2.1,HK.out.2.2,yO]
  have hlen:ms.length<=20000:=qH (zbd hnd (fun z hz=>(hin5 z hz).1)) HFw.out
  have hG5:=HG.out.next hb5
  have hkl:zbP (XY p F) w5 v5 ms:=zas.keepsL hr5 (fun b q=>HG.out.lw.lowY b q) (fun y hy=>zcp HFw.out (hin5 y hy).1) hlen
  have HC:=zqh (zuB zfW hG5.lw hkl hlen (zhP (F:=F) (many:=many) HIH.out ms (fun y hy=>by obtain ⟨q1,q2⟩:=hin5 y hy;refine ⟨q1,?_⟩;unfold zac at q1;omega)))
  have HG5:=zqh hG5
  have HMs:=zqh hms
  obtain ⟨A5,c5,hv5,_⟩:=hkl.here
  subst hv5
  clear hr5 hnd hmm hb5 hin5 hms hG5 hkl
  go_wp2_with fail
  refine HC.out.mono ?_
  rintro e w6 ⟨v6,f,ns6,F6,many6,rfl,hg6,hk6,hi6,hd6⟩
  obtain ⟨A6,c6,hv6⟩:=hk6.at
  subst hv6
  have HG6:=zqh (HG5.out.trans hg6)
  have HK6:=zqh hk6
  have HI6:=zqh hi6
  have HD6:=zqh hd6
  clear hg6 hk6 hi6 hd6
  go_wp2_with fail
  go_ret
  exact za9.done HG6.out HK6.out HI6.out (fun q=>Den.val (Den.val (HD6.out q) (fun a b c d _=>zm0 HFi.out HX.out HMs.out a b c d)) (fun a b c d hv=>by rw[zd7 HFi.out HI.out HKi.out.1 a b hv.2.1,HKi.out.2]))
 have hb4:=(zab hk4).1
 clear hk4
 by_cases hk5:u.kind=5
 ·have HKd:=zqh hk5
  rw[hk5] at ck
  clear hk5 hb0 hb4
  obtain ⟨⟨ia,la⟩,ib,lb⟩:=zaK HFi.out HX.out (by rw[HK.out.1];have:=HKd.out;omega)
  rw[HK.out.2.1] at ia la
  rw[HK.out.2.2] at ib lb
  have HM:=zqh (zef 5 (by omega) HG.out.lw u HKd.out ia ib)
  have HMm:Hid (∀y,(y∈mem ns 5 u.a\/y∈mem ns 5 u.b)->zac ns y/\y<x):=zqh (fun y hy=>by
   rcases hy with hy | hy
   ·obtain ⟨q1,q2,_⟩:=zcs HFi.out (by omega) _ u.a zqn ia y hy
    exact ⟨q1,by omega⟩
   ·obtain ⟨q1,q2,_⟩:=zcs HFi.out (by omega) _ u.b zqn ib y hy
    exact ⟨q1,by omega⟩)
  clear ia la ib lb
  go_wp2_with (first
   |(with_reducible show wpList _ _ _ (⟨none,.store 61 _ _,_,_,_,_⟩::_) _ _
     refine qN rfl 61 _ _ rfl w3.heap.size u.cs.toArray rfl rfl 61 Nd.zero.cs.toArray (At.new _ _ _) (by kernel_rfl) rfl hone ?_
     first | change wpList _ _ _ _ _ (zaD w3 u) | change Exit.then _ _ _ _ (zaD w3 u))
   |(with_reducible show wpList _ _ _ (⟨_,.load 61 _,_,_,_,_⟩::_) _ _
     refine zaa (by rfl) 61 _ rfl w3.heap.size rfl 61 u.cs.toArray (0,0) _ HXb.out Tryz.underlying61 rfl (by rw[qO,Nd.cs_length];kernel_rfl) ?_)
   | fail)
  refine HM.out.mono ?_
  rintro e w5 ⟨v5,ms,rfl,hr5,hnd,hmm,hb5⟩
  have hin5:∀y∈ms,zac ns y/\y<x:=fun y hy=>HMm.out y ((hmm y).1 hy)
  have hms:∀y,y∈ms↔y∈mem ns 5 x:=fun y=>by
   rw[hmm y,zbV HFi.out (by omega) HX.out (by rw[HK.out.1];exact HKd.out),HK.out.2.1,HK.out.2.2,yO]
  have hlen:ms.length<=20000:=qH (zbd hnd (fun z hz=>(hin5 z hz).1)) HFw.out
  have hG5:=HG.out.next hb5
  have hkl:zbP (XY p F) w5 v5 ms:=zas.keepsL hr5 (fun b q=>HG.out.lw.lowY b q) (fun y hy=>zcp HFw.out (hin5 y hy).1) hlen
  have HC:=zqh (lOr zfW hG5.lw hkl (zhP (F:=F) (many:=many) HIH.out ms (fun y hy=>by obtain ⟨q1,q2⟩:=hin5 y hy;refine ⟨q1,?_⟩;unfold zac at q1;omega)))
  have HG5:=zqh hG5
  have HMs:=zqh hms
  obtain ⟨A5,c5,hv5,_⟩:=hkl.here
  subst hv5
  clear hr5 hnd hmm hb5 hin5 hms hG5 hkl
  go_wp2_with fail
  refine HC.out.mono ?_
  rintro e w6 ⟨v6,f,ns6,F6,many6,rfl,hg6,hk6,hi6,hd6⟩
  obtain ⟨A6,c6,hv6⟩:=hk6.at
  subst hv6
  have HG6:=zqh (HG5.out.trans hg6)
  have HK6:=zqh hk6
  have HI6:=zqh hi6
  have HD6:=zqh hd6
  clear hg6 hk6 hi6 hd6
  go_wp2_with fail
  go_ret
  exact za9.done HG6.out HK6.out HI6.out (fun q=>Den.val (Den.val (HD6.out q) (fun a b c d _=>zm1 HFi.out HX.out HMs.out a b c d)) (fun a b c d hv=>by rw[zd7 HFi.out HI.out HKi.out.1 a b hv.2.1,HKi.out.2]))
 have hb5:=(zab hk5).1
 clear hk5
 have HC:=zqh (zsQ (zaD w3 u) id (by have:=HI.out;unfold zac at this;omega) (zcp HFw.out HI.out))
 clear cA
 go_wp2_with (first
   |(with_reducible show wpList _ _ _ (⟨none,.store 61 _ _,_,_,_,_⟩::_) _ _
     refine qN rfl 61 _ _ rfl w3.heap.size u.cs.toArray rfl rfl 61 Nd.zero.cs.toArray (At.new _ _ _) (by kernel_rfl) rfl hone ?_
     first | change wpList _ _ _ _ _ (zaD w3 u) | change Exit.then _ _ _ _ (zaD w3 u))
   |(with_reducible show wpList _ _ _ (⟨_,.load 61 _,_,_,_,_⟩::_) _ _
     refine zaa (by rfl) 61 _ rfl w3.heap.size rfl 61 u.cs.toArray (0,0) _ HXb.out Tryz.underlying61 rfl (by rw[qO,Nd.cs_length];kernel_rfl) ?_)
   | fail)
 refine HC.out.mono ?_
 rintro e w5 ⟨A5,c5,rfl,hf5,hb5⟩
 have HK5:=zqh (zaZ.keeps HG.out.lw hf5)
 have HG5:=zqh (HG.out.next hb5)
 clear hf5 hb5
 go_wp2_with fail
 go_ret
 exact za9.done HG5.out HK5.out (zbf.atom (by have:=HI.out;unfold zac at this;omega) (zfs.2 HI.out)) (fun q=>zjR)
theorem lOf {n:Nat} (IH:∀k,k<n->ztf k) (id:Int) (h:LW p w ns F many) (hin:zac ns id) (hr:rk ns id=n) :
  Calls Tryz.prog 62 #[.pointer (some ⟨p.gw,0,none⟩),.int .i64 id] w (za9 p w ns F many fun ms f=>OfR ns id ms f):=by
 have HX:=zqh hin
 have HI:=zqh hin
 clear hin
 have HW:=zqh h
 have HIH:=zqh IH
 obtain ⟨gp,hgp⟩:=zar.ptr h.ar
 have HN:=zqh (zar.node id h.ar (zcg h.few HX.out))
 rw[show decide (0<=id/\id<(ns.length:Int))=true from qD HX.out] at HN
 have c0:=h.cells.1
 rw[hgp] at c0 HN
 have HFi:=zqh h.fine
 have HFw:=zqh h.few
 clear h IH hgp
 go_enter Tryz.func62,Tryz.ntmps62
 go_wp2_with fail
 refine HN.out.mono ?_
 rintro e w3 ⟨u,rfl,hu,hb3,_⟩
 have hu:=hu HX.out
 have HK:Hid (kd ns id=u.kind/\ka ns id=u.a/\kb ns id=u.b):=zqh ⟨by unfold kd;rw[<-hu],by unfold ka;rw[<-hu],by unfold kb;rw[<-hu]⟩
 have HU:=zqh hu
 have HXb:=zqh (zbq w3 u)
 have HG:=zqh (za8.of HW.out (hb3.trans ((zaN w3 u).mono hb3.size)))
 have hone:=Nd.one u
 have ck:=(Nd.cells HXb.out).1
 have cA:=(Nd.cells HXb.out).2.2.2.2.2.1
 clear hu hb3
 have HRk:Hid (u.kind≠6->2*id.toNat=n):=zqh (fun q=>by unfold rk at hr;rw[HK.out.1,if_neg q] at hr;exact hr)
 have HR6:Hid (u.kind=6->2*u.a.toNat+1=n):=zqh (fun q=>by unfold rk at hr;rw[HK.out.1,if_pos q,HK.out.2.1] at hr;exact hr)
 clear hr
 by_cases hk0:u.kind=0
 ·have HKd:=zqh hk0
  rw[hk0] at ck
  clear hk0
  have HC:=zqh (zhd (zaD w3 u))
  go_wp2_with (first
   |(with_reducible show wpList _ _ _ (⟨none,.store 61 _ _,_,_,_,_⟩::_) _ _
     refine qN rfl 61 _ _ rfl w3.heap.size u.cs.toArray rfl rfl 61 Nd.zero.cs.toArray (At.new _ _ _) (by kernel_rfl) rfl hone ?_
     first | change wpList _ _ _ _ _ (zaD w3 u) | change Exit.then _ _ _ _ (zaD w3 u))
   |(with_reducible show wpList _ _ _ (⟨_,.load 61 _,_,_,_,_⟩::_) _ _
     refine zaa (by rfl) 61 _ rfl w3.heap.size rfl 61 u.cs.toArray (0,0) _ HXb.out Tryz.underlying61 rfl (by rw[qO,Nd.cs_length];kernel_rfl) ?_)
   | fail)
  refine HC.out.mono ?_
  rintro e w5 ⟨A5,c5,rfl,hf5,hb5⟩
  have HK5:=zqh (zaZ.keeps HG.out.lw hf5)
  have HG5:=zqh (HG.out.next hb5)
  clear hf5 hb5
  go_wp2_with fail
  go_ret
  exact za9.done HG5.out HK5.out (zbf.nil _) (fun q=>zuJ HFi.out HI.out (by rw[HK.out.1];exact HKd.out))
 have hb0:=(zab hk0).1
 clear hk0
 by_cases hk4:u.kind=4
 ·have HKd:=zqh hk4
  rw[hk4] at ck
  clear hk4 hb0
  obtain ⟨⟨ia,la⟩,ib,lb⟩:=zaK HFi.out HX.out (by rw[HK.out.1];have:=HKd.out;omega)
  rw[HK.out.2.1] at ia la
  rw[HK.out.2.2] at ib lb
  have HM:=zqh (zef 4 (by omega) HG.out.lw u HKd.out ia ib)
  have HMm:Hid (∀y,(y∈mem ns 4 u.a\/y∈mem ns 4 u.b)->zac ns y/\y<id):=zqh (fun y hy=>by
   rcases hy with hy | hy
   ·obtain ⟨q1,q2,_⟩:=zcs HFi.out (by omega) _ u.a zqn ia y hy
    exact ⟨q1,by omega⟩
   ·obtain ⟨q1,q2,_⟩:=zcs HFi.out (by omega) _ u.b zqn ib y hy
    exact ⟨q1,by omega⟩)
  clear ia la ib lb
  go_wp2_with (first
   |(with_reducible show wpList _ _ _ (⟨none,.store 61 _ _,_,_,_,_⟩::_) _ _
     refine qN rfl 61 _ _ rfl w3.heap.size u.cs.toArray rfl rfl 61 Nd.zero.cs.toArray (At.new _ _ _) (by kernel_rfl) rfl hone ?_
     first | change wpList _ _ _ _ _ (zaD w3 u) | change Exit.then _ _ _ _ (zaD w3 u))
   |(with_reducible show wpList _ _ _ (⟨_,.load 61 _,_,_,_,_⟩::_) _ _
     refine zaa (by rfl) 61 _ rfl w3.heap.size rfl 61 u.cs.toArray (0,0) _ HXb.out Tryz.underlying61 rfl (by rw[qO,Nd.cs_length];kernel_rfl) ?_)
   | fail)
  refine HM.out.mono ?_
  rintro e w5 ⟨v5,ms,rfl,hr5,hnd,hmm,hb5⟩
  have hin5:∀y∈ms,zac ns y/\y<id:=fun y hy=>HMm.out y ((hmm y).1 hy)
  have hms:∀y,y∈ms↔y∈mem ns 4 id:=fun y=>by
   rw[hmm y,zbV HFi.out (by omega) HX.out (by rw[HK.out.1];exact HKd.out),HK.out.2.1,HK.out.2.2,yO]
  have hlen:ms.length<=20000:=qH (zbd hnd (fun z hz=>(hin5 z hz).1)) HFw.out
  have hG5:=HG.out.next hb5
  have hkl:zbP (XY p F) w5 v5 ms:=zas.keepsL hr5 (fun b q=>HG.out.lw.lowY b q) (fun y hy=>zcp HFw.out (hin5 y hy).1) hlen
  have HC:=zqh (lOr zjq hG5.lw hkl (zjr (F:=F) (many:=many) HIH.out ms (fun y hy=>by obtain ⟨q1,q2⟩:=hin5 y hy;refine ⟨q1,?_⟩;have:=HRk.out (by have:=HKd.out;omega);unfold zac at q1;omega) HFw.out))
  have HG5:=zqh hG5
  have HMs:=zqh hms
  obtain ⟨A5,c5,hv5,_⟩:=hkl.here
  subst hv5
  clear hr5 hnd hmm hb5 hin5 hms hG5 hkl
  go_wp2_with fail
  refine HC.out.mono ?_
  rintro e w6 ⟨v6,f,ns6,F6,many6,rfl,hg6,hk6,hi6,hd6⟩
  obtain ⟨A6,c6,hv6⟩:=hk6.at
  subst hv6
  have HG6:=zqh (HG5.out.trans hg6)
  have HK6:=zqh hk6
  have HI6:=zqh hi6
  have HD6:=zqh hd6
  clear hg6 hk6 hi6 hd6
  go_wp2_with fail
  go_ret
  exact za9.done HG6.out HK6.out HI6.out (fun q=>zkv HFi.out HI.out HMs.out (HD6.out q))
 have hb4:=(zab hk4).1
 clear hk4
 by_cases hk5:u.kind=5
 ·have HKd:=zqh hk5
  rw[hk5] at ck
  clear hk5 hb0 hb4
  obtain ⟨⟨ia,la⟩,ib,lb⟩:=zaK HFi.out HX.out (by rw[HK.out.1];have:=HKd.out;omega)
  rw[HK.out.2.1] at ia la
  rw[HK.out.2.2] at ib lb
  have HM:=zqh (zef 5 (by omega) HG.out.lw u HKd.out ia ib)
  have HMm:Hid (∀y,(y∈mem ns 5 u.a\/y∈mem ns 5 u.b)->zac ns y/\y<id):=zqh (fun y hy=>by
   rcases hy with hy | hy
   ·obtain ⟨q1,q2,_⟩:=zcs HFi.out (by omega) _ u.a zqn ia y hy
    exact ⟨q1,by omega⟩
   ·obtain ⟨q1,q2,_⟩:=zcs HFi.out (by omega) _ u.b zqn ib y hy
    exact ⟨q1,by omega⟩)
  clear ia la ib lb
  go_wp2_with (first
   |(with_reducible show wpList _ _ _ (⟨none,.store 61 _ _,_,_,_,_⟩::_) _ _
     refine qN rfl 61 _ _ rfl w3.heap.size u.cs.toArray rfl rfl 61 Nd.zero.cs.toArray (At.new _ _ _) (by kernel_rfl) rfl hone ?_
     first | change wpList _ _ _ _ _ (zaD w3 u) | change Exit.then _ _ _ _ (zaD w3 u))
   |(with_reducible show wpList _ _ _ (⟨_,.load 61 _,_,_,_,_⟩::_) _ _
     refine zaa (by rfl) 61 _ rfl w3.heap.size rfl 61 u.cs.toArray (0,0) _ HXb.out Tryz.underlying61 rfl (by rw[qO,Nd.cs_length];kernel_rfl) ?_)
   | fail)
  refine HM.out.mono ?_
  rintro e w5 ⟨v5,ms,rfl,hr5,hnd,hmm,hb5⟩
  have hin5:∀y∈ms,zac ns y/\y<id:=fun y hy=>HMm.out y ((hmm y).1 hy)
  have hms:∀y,y∈ms↔y∈mem ns 5 id:=fun y=>by
   rw[hmm y,zbV HFi.out (by omega) HX.out (by rw[HK.out.1];exact HKd.out),HK.out.2.1,HK.out.2.2,yO]
  have hlen:ms.length<=20000:=qH (zbd hnd (fun z hz=>(hin5 z hz).1)) HFw.out
  have hG5:=HG.out.next hb5
  have hkl:zbP (XY p F) w5 v5 ms:=zas.keepsL hr5 (fun b q=>HG.out.lw.lowY b q) (fun y hy=>zcp HFw.out (hin5 y hy).1) hlen
  have HC:=zqh (zuB zjq hG5.lw hkl hlen (zjr (F:=F) (many:=many) HIH.out ms (fun y hy=>by obtain ⟨q1,q2⟩:=hin5 y hy;refine ⟨q1,?_⟩;have:=HRk.out (by have:=HKd.out;omega);unfold zac at q1;omega) HFw.out))
  have HG5:=zqh hG5
  have HMs:=zqh hms
  obtain ⟨A5,c5,hv5,_⟩:=hkl.here
  subst hv5
  clear hr5 hnd hmm hb5 hin5 hms hG5 hkl
  go_wp2_with fail
  refine HC.out.mono ?_
  rintro e w6 ⟨v6,f,ns6,F6,many6,rfl,hg6,hk6,hi6,hd6⟩
  obtain ⟨A6,c6,hv6⟩:=hk6.at
  subst hv6
  have HG6:=zqh (HG5.out.trans hg6)
  have HK6:=zqh hk6
  have HI6:=zqh hi6
  have HD6:=zqh hd6
  clear hg6 hk6 hi6 hd6
  go_wp2_with fail
  go_ret
  exact za9.done HG6.out HK6.out HI6.out (fun q=>zkw HFi.out HI.out HMs.out (HD6.out q))
 have hb5:=(zab hk5).1
 clear hk5
 by_cases hk6:u.kind=6
 ·have HKd:=zqh hk6
  rw[hk6] at ck
  clear hk6 hb0 hb4 hb5
  have HC:=zqh (zun HIH.out id u.a HG.out.lw HI.out (by rw[HK.out.1];exact HKd.out) HK.out.2.1 (by have:=HR6.out HKd.out;omega))
  go_wp2_with (first
   |(with_reducible show wpList _ _ _ (⟨none,.store 61 _ _,_,_,_,_⟩::_) _ _
     refine qN rfl 61 _ _ rfl w3.heap.size u.cs.toArray rfl rfl 61 Nd.zero.cs.toArray (At.new _ _ _) (by kernel_rfl) rfl hone ?_
     first | change wpList _ _ _ _ _ (zaD w3 u) | change Exit.then _ _ _ _ (zaD w3 u))
   |(with_reducible show wpList _ _ _ (⟨_,.load 61 _,_,_,_,_⟩::_) _ _
     refine zaa (by rfl) 61 _ rfl w3.heap.size rfl 61 u.cs.toArray (0,0) _ HXb.out Tryz.underlying61 rfl (by rw[qO,Nd.cs_length];kernel_rfl) ?_)
   | fail)
  refine HC.out.mono ?_
  rintro e w6 ⟨v6,f,ns6,F6,many6,rfl,hg6,hk6,hi6,hd6⟩
  obtain ⟨A6,c6,hv6⟩:=hk6.at
  subst hv6
  have HG6:=zqh (HG.out.trans hg6)
  have HK6:=zqh hk6
  have HI6:=zqh hi6
  have HD6:=zqh hd6
  clear hg6 hk6 hi6 hd6
  go_wp2_with fail
  go_ret
  exact za9.done HG6.out HK6.out HI6.out HD6.out
 have hb6:=(zab hk6).1
 clear hk6
 have HC:=zqh (zsQ (zaD w3 u) id (by have:=HI.out;unfold zac at this;omega) (zcp HFw.out HI.out))
 clear cA
 go_wp2_with (first
   |(with_reducible show wpList _ _ _ (⟨none,.store 61 _ _,_,_,_,_⟩::_) _ _
     refine qN rfl 61 _ _ rfl w3.heap.size u.cs.toArray rfl rfl 61 Nd.zero.cs.toArray (At.new _ _ _) (by kernel_rfl) rfl hone ?_
     first | change wpList _ _ _ _ _ (zaD w3 u) | change Exit.then _ _ _ _ (zaD w3 u))
   |(with_reducible show wpList _ _ _ (⟨_,.load 61 _,_,_,_,_⟩::_) _ _
     refine zaa (by rfl) 61 _ rfl w3.heap.size rfl 61 u.cs.toArray (0,0) _ HXb.out Tryz.underlying61 rfl (by rw[qO,Nd.cs_length];kernel_rfl) ?_)
   | fail)
 refine HC.out.mono ?_
 rintro e w5 ⟨A5,c5,rfl,hf5,hb5⟩
 have HK5:=zqh (zaZ.keeps HG.out.lw hf5)
 have HG5:=zqh (HG.out.next hb5)
 clear hf5 hb5
 go_wp2_with fail
 go_ret
 exact za9.done HG5.out HK5.out (zbf.atom (by have:=HI.out;unfold zac at this;omega) (zfs.2 HI.out)) (fun q=>zjR)
end
theorem foIs:∀n:Nat,ztf n:=fun n=>Nat.strongRecOn n (fun n IH=>fun p w ns F many id hid hin hw=>by
 refine zmm id hid hw (hin.imp (fun q=>q.1) (fun q=>q)) (fun hm=>?_)
 obtain ⟨hi,hr⟩:=hin.resolve_right (fun q=>by rw[hm] at q;cases q.1)
 exact lOf (n:=rk ns id) (fun k hk=>IH k (qM hk hr)) id hw hi rfl)
section
variable {p:LP} {w:World} {ns:List Nd} {F:Nat->Prop} {many:Bool}
theorem zfv (id:Int) (hid:I64 id) (hin:zac ns id\/(many=true/\¬zac ns id)) (h:LW p w ns F many):Calls Tryz.prog 27 #[.pointer (some ⟨p.gw,0,none⟩),.int .i64 id] w (za9 p w ns F many fun ms f=>OfR ns id ms f) :=
 foIs (rk ns id) p id hid (hin.imp (fun q=>⟨q,qL _⟩) (fun q=>q)) h
theorem zoo (id:Int) (h:LW p w ns F many) (hin:zac ns id):Calls Tryz.prog 114 #[.pointer (some ⟨p.gw,0,none⟩),.int .i64 id] w (za9 p w ns F many fun ms f=>Den V0 0 (zhh ns id) ms f):=zrf (foIs _) id zqn h hin
end
end
end Go.Proofs.YtdmodhnhldbpnaaGreat
