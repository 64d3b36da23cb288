/- Joined: GlUp, GlN, GlSz. -/
import Derived.Test.YtdmodhnhldbpnaaGreatMaq
import Derived.Deep.QuietTactic
import Derived.Deep.RegionHeld3
import Derived.Test.YtdmodhnhldbpnaaGreatMzy
import Derived.Test.YtdmodhnhldbpnaaGreatMah
import Derived.Test.YtdmodhnhldbpnaaGreatMac
import Derived.Test.YtdmodhnhldbpnaaGreatMaa
import Derived.Test.YtdmodhnhldbpnaaGreatAid
/- norm's builder over any arena: upTo. -/
set_option linter.unusedSectionVars false
set_option linter.unusedSimpArgs false
set_option linter.unusedVariables false
set_option maxHeartbeats 16000000
set_option maxRecDepth 100000
namespace Go.Proofs.YtdmodhnhldbpnaaGreat
section
open Go.RowKit Go.Shelf
variable {D:List Nat->List Nat->Prop} {u:Value}
section
variable {AA:World->Value->List Nd->(Nat->Prop)->Prop}
structure UJ (D:List Nat->List Nat->Prop) (AA:World->Value->List Nd->(Nat->Prop)->Prop) (w:World) (a:Value) (ns:List Nd) (F:Nat->Prop) (e:Int) (f:List Nat->Tbl) (i:Nat) (W:World) (more:List Nd) (F':Nat->Prop) (r:Int):Prop where
 ab:AA W a (ns++more) F'
 low:∀b,F' b->F b\/w.heap.size<=b
 off:OffF F w W
 inn:e=-1\/(zac (ns++more) e/\kd (ns++more) e=1)
 up:r=-1\/(zac (ns++more) r/\zb4 D (ns++more) r (fun l=>zmr (f l) (l.length+1) i))
theorem ztY (S:zaI AA) {w:World} {a:Value} {ns:List Nd} {F:Nat->Prop} {f:List Nat->Tbl} (g m:Nat) (x:Int) (h:AA w a ns F) (hb:BAt w g a u) (hgF:¬F g) (hx:zij ns x) (hf:x=-1\/zb4 D ns x f) (hm:m<=1000) :
  Calls Tryz.prog 134 #[.pointer (some ⟨g,0,none⟩),.int .i64 x,.int .i64 m] w (Got AA w a ns F fun ms r=>zb4 D ms r (fun l=>zmr (f l) (l.length+1) m)):=by
 have HE:=zqh (ziX S.toArenaAny h)
 have HBa:=zqh hb
 have HgF:=zqh hgF
 have HX:=zqh hx
 have HTf:=zqh hf
 have HMm:=zqh hm
 have HLw:=zqh (At.lt hb)
 have cb:w.cell? ⟨g,0,none⟩=some a:=hb.cell 0
 obtain ⟨gp,rfl⟩:=S.ptr h
 have hxI:I64 x:=hx.i64 (S.max h)
 clear h hb hgF hx hf
 go_enter Tryz.func134,Tryz.ntmps134
 go_wp2_with fail
 refine HE.out.mono ?_
 rintro e w1 ⟨r0,m0,F1,rfl,g1,g2,g3,g4⟩
 have HJ0:Hid (UJ D AA w (.pointer (some ⟨gp,0,none⟩)) ns F r0 f 0 w1 m0 F1 r0):=zqh ⟨g1,g2,g3,g4,g4.imp id (fun q=>⟨q.1,zkO (S.fine g1) q.1 q.2⟩)⟩
 clear g1 g2 g3 g4 cb
 go_wp2_with fail
 go_loopw [8,16] (fun x0 i wr=>∃(j:Nat) (more:List Nd) (F':Nat->Prop) (r:Int),j<=m/\i=.int .i64 j/\x0=.int .i64 r/\Hid (UJ D AA w (.pointer (some ⟨gp,0,none⟩)) ns F r0 f j wr more F' r)) (fun _ i _=>m-(intOf i).toNat)
 case atStart=>exact ⟨0,m0,F1,r0,qK _,rfl,rfl,HJ0⟩
 case round =>
  obtain ⟨j,more,F',r,hj,rfl,rfl,HJ⟩:=hrel
  have hBW:BAt wr g (.pointer (some ⟨gp,0,none⟩)) u:=HBa.out.off HgF.out HJ.out.off
  have cb:wr.cell? ⟨g,0,none⟩=some (.pointer (some ⟨gp,0,none⟩)):=hBW.cell 0
  by_cases hjm:j<m
  ·have hj0:(0:Int)<=(j:Int):=by omega
   have hj1:(j:Int)<(m:Int):=by omega
   have HCt:Hid (∀W',Below wr.heap.size wr W'->Calls Tryz.prog 123 #[.pointer (some ⟨gp,0,none⟩),.int .i64 x,.int .i64 r] W' (Got AA wr (.pointer (some ⟨gp,0,none⟩)) (ns++more) F' fun ms c=>zac (ns++more) x/\zac (ns++more) r/\zhC (ns++more) x r ms c)):=zqh (fun W' hb =>
    (gCatX S.toArenaAny x r (S.next HJ.out.ab hb)).mono (fun _ _ g=>g.from hb))
   have HgB:Hid (g<wr.heap.size/\¬F' g):=zqh ⟨At.lt hBW,fun z=>by
    rcases HJ.out.low _ z with z | z
    ·exact HgF.out z
    ·have:=HLw.out;omega⟩
   have HBw:=zqh hBW
   clear hBW
   go_wp2_with fail
   refine wp_region_noPanic ?_
   refine wp_region_held_drew (S:=(fun w'=>w'.cell? ⟨g,0,none⟩=some (.pointer (some ⟨gp,0,none⟩)))) (by kernel_rfl) (by exact cb) (fun hHeld=>?_)
   refine wpAnyH_take (i:=0) (oi:=⟨some 18,_,_,_,_,_⟩) (v:=?_) rfl (by kernel_rfl) (by kernel_rfl) (by kernel_rfl) (fun _ _ _ h=>h) (Or.inl ⟨by rfl,?_⟩) (by exact hHeld) ?_
   rotate_left
   ·(intro w hSw;(try dsimp only at hSw);go_simp;try (with_reducible rfl))
   simp only[Act.put,qA,qB,qC]
   refine wpAnyH_take (i:=1) (oi:=⟨some 19,_,_,_,_,_⟩) (v:=?_) rfl (by kernel_rfl) (by kernel_rfl) (by kernel_rfl) (fun _ _ _ h=>h) (Or.inl ⟨by rfl,?_⟩) (by exact hHeld) ?_
   rotate_left
   ·(intro w hSw;(try dsimp only at hSw);go_simp;try (with_reducible rfl))
   simp only[Act.put,qA,qB,qC]
   refine wpAnyH_take (i:=2) (oi:=⟨some 20,_,_,_,_,_⟩) (v:=?_) rfl (by kernel_rfl) (by kernel_rfl) (by kernel_rfl) (fun _ _ _ h=>h) (Or.inl ⟨by rfl,?_⟩) (by exact hHeld) ?_
   rotate_left
   ·(intro w hSw;(try dsimp only at hSw);go_simp;try (with_reducible rfl))
   simp only[Act.put,qA,qB,qC]
   refine wpAnyH_take (i:=3) (oi:=⟨some 21,_,_,_,_,_⟩) (v:=?_) rfl (by kernel_rfl) (by kernel_rfl) (by kernel_rfl) (fun _ _ _ h=>h) (Or.inl ⟨by rfl,?_⟩) (by exact hHeld) ?_
   rotate_left
   ·(intro w hSw;(try dsimp only at hSw);go_simp;try (with_reducible rfl))
   simp only[Act.put,qA,qB,qC]
   refine wpAnyH_take (i:=4) (oi:=⟨some 22,_,_,_,_,_⟩) (v:=?_) rfl (by kernel_rfl) (by kernel_rfl) (by kernel_rfl) (fun _ _ _ h=>h) (Or.inl ⟨by rfl,?_⟩) (by exact hHeld) ?_
   rotate_left
   ·(intro w hSw;(try dsimp only at hSw);go_simp;try (with_reducible rfl))
   simp only[Act.put,qA,qB,qC]
   refine wpAnyH_take (i:=5) (oi:=⟨some 23,_,_,_,_,_⟩) (v:=?_) rfl (by kernel_rfl) (by kernel_rfl) (by kernel_rfl) (fun _ _ _ h=>h) (Or.inl ⟨by rfl,?_⟩) (by exact hHeld) ?_
   rotate_left
   ·(intro w hSw;(try dsimp only at hSw);go_simp;try (with_reducible rfl))
   simp only[Act.put,qA,qB,qC]
   refine wpAnyH_take (i:=6) (oi:=⟨some 24,_,_,_,_,_⟩) (v:=?_) rfl (by kernel_rfl) (by kernel_rfl) (by kernel_rfl) (fun _ _ _ h=>h) (Or.inl ⟨by rfl,?_⟩) (by exact hHeld) ?_
   rotate_left
   ·(intro w hSw;(try dsimp only at hSw);go_simp;try (with_reducible rfl))
   simp only[Act.put,qA,qB,qC]
   refine wpAnyH_take (i:=7) (oi:=⟨some 25,_,_,_,_,_⟩) (v:=?_) rfl (by kernel_rfl) (by kernel_rfl) (by kernel_rfl) (fun _ _ _ h=>h) (Or.inl ⟨by rfl,?_⟩) (by exact hHeld) ?_
   rotate_left
   ·(intro w hSw;(try dsimp only at hSw);go_simp;try (with_reducible rfl))
   simp only[Act.put,qA,qB,qC]
   refine wpAnyH_take (i:=8) (oi:=⟨some 26,_,_,_,_,_⟩) (v:=?_) rfl (by kernel_rfl) (by kernel_rfl) (by kernel_rfl) (fun _ _ _ h=>h) (Or.inl ⟨by rfl,?_⟩) (by exact hHeld) ?_
   rotate_left
   ·(intro w hSw;(try dsimp only at hSw);go_simp;try (with_reducible rfl))
   simp only[Act.put,qA,qB,qC]
   refine wpAnyH_take (i:=9) (oi:=⟨some 27,_,_,_,_,_⟩) (v:=?_) rfl (by kernel_rfl) (by kernel_rfl) (by kernel_rfl) (fun _ _ _ h=>h) (Or.inl ⟨by rfl,?_⟩) (by exact hHeld) ?_
   rotate_left
   ·(intro w hSw;(try dsimp only at hSw);go_simp;try (with_reducible rfl))
   simp only[Act.put,qA,qB,qC]
   refine wpAnyH_take (i:=10) (oi:=⟨some 28,_,_,_,_,_⟩) (v:=?_) rfl (by kernel_rfl) (by kernel_rfl) (by kernel_rfl) (fun _ _ _ h=>h) (Or.inl ⟨by rfl,?_⟩) (by exact hHeld) ?_
   rotate_left
   ·(intro w hSw;(try dsimp only at hSw);go_simp;try (with_reducible rfl))
   simp only[Act.put,qA,qB,qC]
   refine wpAnyH_ready (rs:=[11]) (by kernel_rfl) (by simp) ?_
   refine AllReadyH.cons (o:=⟨some 29,_,_,_,_,_⟩) rfl (fun K hK=>?_) AllReadyH.nil
   go_simp
   ((with_reducible refine (HCt.out _ (qT _ _).drew).mono ?_))
   rintro e W6 ⟨c,more2,F2,rfl,k1,k2,k3,k4⟩
   have hB6:BAt W6 g (.pointer (some ⟨gp,0,none⟩)) u:=(show BAt wr g (.pointer (some ⟨gp,0,none⟩)) u from HBw.out).off HgB.out.2 k3
   have cb:W6.cell? ⟨g,0,none⟩=some (.pointer (some ⟨gp,0,none⟩)):=hB6.cell 0
   have hbA:Below W6.heap.size W6 (W6.alloc (.cells #[.int .i64 r0,.int .i64 c] 3)):=zqb
   have HOr:=(zvA S [r0,c] (S.next k1 hbA) (zgl W6 r0 c 3) (by simp)).mono (fun _ _ g=>g.from hbA)
   have HOr:=zqh HOr
   have Hk1:=zqh k1
   have Hk2:=zqh k2
   have Hk3:=zqh k3
   have Hk4:=zqh k4
   clear k1 k2 k3 k4 hbA
   dsimp only
   refine hK.out _ _ ?_ (fun hHeld=>?_)
   ·exact cb
   clear hK K
   try simp only[Act.put,qA,qB,qC]
   refine wpAnyH_ready (rs:=[12]) (by kernel_rfl) (by simp) ?_
   refine AllReadyH.cons (o:=⟨some 30,_,_,_,_,_⟩) rfl (fun K hK=>?_) AllReadyH.nil
   go_simp
   have cb:(W6.alloc (.cells #[.int .i64 r0,.int .i64 c] 3)).cell? ⟨g,0,none⟩=some (.pointer (some ⟨gp,0,none⟩)):=(At.alloc hB6 _).cell 0
   refine hK.out _ _ ?_ (fun hHeld=>?_)
   ·exact cb
   clear hK K
   try simp only[Act.put,qA,qB,qC]
   refine wpAnyH_ready (rs:=[13]) (by kernel_rfl) (by simp) ?_
   refine AllReadyH.cons (o:=⟨some 31,_,_,_,_,_⟩) rfl (fun K hK=>?_) AllReadyH.nil
   go_simp
   ((with_reducible refine HOr.out.mono ?_))
   rintro e W7 ⟨r2,more3,F3,rfl,l1,l2,l3,l4⟩
   have hlow1:∀b,F2 b->F b\/w.heap.size<=b:=fun b z=>by
    rcases Hk2.out b z with z | z
    ·exact HJ.out.low b z
    ·exact Or.inr (qH HJ.out.off.size z)
   have ho1:OffF F w W6:=HJ.out.off.off Hk3.out HJ.out.low
   have HU:Hid (UJ D AA w (.pointer (some ⟨gp,0,none⟩)) ns F r0 f (j+1) W7 (more++(more2++more3)) F3 r2):=zqh (by
    have ea:ns++(more++(more2++more3))=((ns++more)++more2)++more3:=by simp[jQ]
    refine ⟨by rw[ea];exact l1,fun b z=>?_,ho1.off l3 hlow1,HJ.out.inn.imp id (fun q=>by
     rw[ea]
     exact ⟨((q.1.up more2).up more3),by rw[zbt (q.1.up more2),zbt q.1];exact q.2⟩),?_⟩
    ·rcases l2 b z with z | z
     ·exact hlow1 b z
     ·exact Or.inr (qH ho1.size z)
    ·rcases l4 with l4 | ⟨l4,li,lp⟩
     ·exact Or.inl l4
     have hc:=li c (by simp)
     have he:=li r0 (by simp)
     rcases Hk4.out with k4 | ⟨_,kx,kr,kc⟩
     ·exact absurd (k4▸hc) zeD
     rcases HJ.out.up with u4 | ⟨_,ut⟩
     ·exact absurd (u4▸kr) zeD
     rcases HJ.out.inn with e4 | ⟨ei,ek⟩
     ·exact absurd (e4▸he) zeD
     rcases HTf.out with f4 | ft
     ·exact absurd (f4▸kx) zeD
     rcases HX.out with x4 | hx
     ·exact absurd (x4▸kx) zeD
     rw[ea]
     have hfi:=S.fine l1
     have kd3:kd (((ns++more)++more2)++more3) r0=1:=by rw[zbt (ei.up more2),zbt ei];exact ek
     have c1:zhC ((ns++more)++more2) x r ((ns++more)++more2) c:=zr3 kc kx kr
     have c2:zhC (((ns++more)++more2)++more3) x r (((ns++more)++more2)++more3) c:=fun l bits i j hj=>by
      rw[zav l bits more3 hc,c1 l bits i j hj,zav l bits more3 (kx.up more2),zav l bits more3 (kr.up more2)]
     exact Or.inr ⟨l4,ztU hfi l4 (he.up more3) kd3 (hc.up more3) c2 (znz lp li) (((ft.up hx more).up kx more2).up (kx.up more2) more3) ((ut.up kr more2).up (kr.up more2) more3)⟩)
   have hB7:BAt W7 g (.pointer (some ⟨gp,0,none⟩)) u:=HBa.out.off HgF.out (show OffF F w W7 from HU.out.off)
   have cb:W7.cell? ⟨g,0,none⟩=some (.pointer (some ⟨gp,0,none⟩)):=hB7.cell 0
   clear l1 l2 l3 l4 hlow1 ho1 hB7
   dsimp only
   refine hK.out _ _ ?_ (fun hHeld=>?_)
   ·exact cb
   clear hK K
   try simp only[Act.put,qA,qB,qC]
   refine wpAnyH_take (i:=14) (oi:=⟨some 8,_,_,_,_,_⟩) (v:=?_) rfl (by kernel_rfl) (by kernel_rfl) (by kernel_rfl) (fun _ _ _ h=>h) (Or.inl ⟨by rfl,?_⟩) (by exact hHeld) ?_
   rotate_left
   ·(intro w hSw;(try dsimp only at hSw);go_simp;try (with_reducible rfl))
   simp only[Act.put,qA,qB,qC]
   refine wpAnyH_done (by kernel_rfl) ?_ _
   refine NoPanic.normal ?_
   go_wp2_with fail
   exact ⟨⟨j+1,_,F3,r2,by omega,by go_num,rfl,HU⟩,by simp[intOf]<;>omega⟩
  ·obtain rfl:j=m:=by omega
   go_wp2_with fail
   go_ret
   exact ⟨r,more,F',rfl,HJ.out.ab,HJ.out.low,HJ.out.off,HJ.out.up⟩
end
end

section
open Go.RowKit Go.Shelf
variable {D:List Nat->List Nat->Prop} {u:Value}
def sz (k:Nat) (t:Tr):Nat:=(zam k t).toNat
def zq0 (F:Nat->Prop) (w:World) (k:Nat) (t:Tr):Prop:=∀w',OffF F w w'->Tr.In w' k t
def zik (F:Nat->Prop) (w:World) (k:Nat) (A:Option Addr) (ps:List Tr):Prop:=∀w',OffF F w w'->(0<ps.length->∃b off,A=some ⟨b,off,none⟩/\b<w'.heap.size/\∀j (h:j<ps.length),w'.rangeAt b (off+j*9) ps[j].cs)/\∀j (h:j<ps.length),Tr.In w' k ps[j]
theorem OffF.refl (F:Nat->Prop) (w:World):OffF F w w:=⟨rfl,rfl,rfl,qL _,fun _ _ _=>rfl⟩
theorem zq0.step {F F':Nat->Prop} {w w1:World} {k:Nat} {t:Tr} (h:zq0 F w k t) (ho:OffF F w w1) (hl:∀b,F' b->F b\/w.heap.size<=b):zq0 F' w1 k t:=fun w' q=>h w' (ho.off q hl)
theorem zik.step {F F':Nat->Prop} {w w1:World} {k:Nat} {A:Option Addr} {ps:List Tr} (h:zik F w k A ps) (ho:OffF F w w1) (hl:∀b,F' b->F b\/w.heap.size<=b):zik F' w1 k A ps:=fun w' q=>h w' (ho.off q hl)
theorem zq0.parts {F:Nat->Prop} {w:World} {k:Nat} {t:Tr} (h:zq0 F w (k+1) t):zik F w k t.addr t.parts:=fun w' q=>by
 have hi:=h w' q
 have hn:=hi.2.1.1
 exact ⟨fun h0=>by
  obtain ⟨b,off,ha,hb,hr⟩:=hi.2.2.1 (by rw[hn];exact h0)
  exact ⟨b,off,ha,hb,fun j hj=>hr j hj⟩,hi.2.2.2⟩
theorem zik.part {F:Nat->Prop} {w:World} {k:Nat} {A:Option Addr} {ps:List Tr} (h:zik F w k A ps) (j:Nat) (hj:j<ps.length):zq0 F w k ps[j]:=fun w' q=>(h w' q).2 j hj
def wg (F:Nat->Prop) (g:Nat):Nat->Prop:=fun b=>F b\/b=g
theorem OffF.wg {F:Nat->Prop} {w w':World} (h:OffF F w w') (g:Nat):OffF (wg F g) w w':=⟨h.os,h.tape,h.output,h.size,fun b hb hn=>h.block b hb (fun q=>hn (Or.inl q))⟩
theorem zeo {F F':Nat->Prop} {g n:Nat} (h:∀b,F' b->F b\/n<=b):∀b,wg F' g b->wg F g b\/n<=b:=fun b q=>by
 rcases q with q | q
 ·rcases h b q with z | z
  ·exact Or.inl (Or.inl z)
  ·exact Or.inr z
 ·exact Or.inl (Or.inr q)
def zq1 (w:World) (X:Nat->Prop) (kb:Nat) (v:Value) (ks:List Int):Prop:=kb<w.heap.size/\∃A c,v=.slice A ks.length c/\ks.length<=c/\(0<ks.length->∃off,A=some ⟨kb,off,none⟩/\¬X kb/\∀j (h:j<ks.length),w.cell? ⟨kb,off+j,none⟩=some (.int .i64 ks[j]))
theorem zq1.nil {w:World} (X:Nat->Prop) {kb:Nat} (h:kb<w.heap.size):zq1 w X kb (.slice none 0 0) []:=⟨h,none,0,rfl,qL _,fun h=>absurd h (jM 0)⟩
theorem zq1.off {w w':World} {X X':Nat->Prop} {kb:Nat} {v:Value} {ks:List Int} (h:zq1 w X kb v ks) (ho:OffF X w w') (hl:∀b,X' b->X b\/w.heap.size<=b):zq1 w' X' kb v ks:=by
 obtain ⟨hb,A,c,e,hlc,hr⟩:=h
 refine ⟨qM hb ho.size,A,c,e,hlc,fun h0=>?_⟩
 obtain ⟨off,e2,hx,hc⟩:=hr h0
 refine ⟨off,e2,fun q=>?_,fun j hj=>?_⟩
 ·rcases hl kb q with z | z
  ·exact hx z
  ·omega
 ·rw[yA (w:=w) (ho.block kb hb hx)];exact hc j hj
def BKs (w:World) (g:Nat) (a:Value) (F:Nat->Prop) (kb:Nat) (ks:List Int):Prop:=∃v,BAt w g a v/\zq1 w (wg F g) kb v ks
theorem BKs.kb {w:World} {g kb:Nat} {a:Value} {F:Nat->Prop} {ks:List Int} (h:BKs w g a F kb ks):kb<w.heap.size:=by obtain ⟨_,_,h,_⟩:=h;exact h
theorem BKs.lt {w:World} {g:Nat} {a:Value} {F:Nat->Prop} {kb:Nat} {ks:List Int} (h:BKs w g a F kb ks):g<w.heap.size:=by obtain ⟨v,h,_⟩:=h;exact At.lt h
theorem BKs.cell {w:World} {g:Nat} {a:Value} {F:Nat->Prop} {kb:Nat} {ks:List Int} (h:BKs w g a F kb ks):w.cell? ⟨g,0,none⟩=some a:=by obtain ⟨v,h,_⟩:=h;exact At.cell h 0
theorem BKs.off {w w':World} {g:Nat} {a:Value} {F F':Nat->Prop} {kb:Nat} {ks:List Int} (h:BKs w g a F kb ks) (hg:¬F g) (ho:OffF F w w') (hl:∀b,F' b->F b\/w.heap.size<=b):BKs w' g a F' kb ks:=by
 obtain ⟨v,h1,h2⟩:=h
 exact ⟨v,h1.off hg ho,h2.off (ho.wg g) (zeo hl)⟩
theorem BKs.next {w w':World} {g:Nat} {a:Value} {F:Nat->Prop} {kb:Nat} {ks:List Int} (h:BKs w g a F kb ks) (hb:Below w.heap.size w w'):BKs w' g a F kb ks:=by
 obtain ⟨v,h1,h2⟩:=h
 exact ⟨v,(hb.block g (At.lt h1)).trans h1,h2.off (OffF.of hb) (fun b q=>Or.inl q)⟩
def zej (AA:World->Value->List Nd->(Nat->Prop)->Prop) (w:World) (a:Value) (ns:List Nd) (F:Nat->Prop) (g kb:Nat) (rest:List Int) (R:List Nd->Int->Prop) (e:Ending) (w':World):Prop :=
 ∃(r:Int) (more:List Nd) (F':Nat->Prop),e=.returned (.int .i64 r)/\AA w' a (ns++more) F'/\(∀b,F' b->F b\/w.heap.size<=b)/\OffF (wg F g) w w'/\BKs w' g a F' kb rest/\(r=-1\/(zac (ns++more) r/\R (ns++more) r))
theorem zej.of {AA:World->Value->List Nd->(Nat->Prop)->Prop} {w w1 w':World} {a:Value} {ns:List Nd} {F:Nat->Prop} {g kb:Nat} {rest:List Int} {R:List Nd->Int->Prop} {e:Ending} (h:Got AA w1 a ns F R e w') (hb:Below w.heap.size w w1) (hk:BKs w g a F kb rest) (hg:¬F g):zej AA w a ns F g kb rest R e w':=by
 obtain ⟨r,more,F',g0,g1,g2,g3,g4⟩:=h
 have ho:OffF F w w':=(OffF.of hb).off g3 (fun b q=>Or.inl q)
 have hl:∀b,F' b->F b\/w.heap.size<=b:=fun b q=>by
  rcases g2 b q with z | z
  ·exact Or.inl z
  ·exact Or.inr (qH hb.size z)
 exact ⟨r,more,F',g0,g1,hl,ho.wg g,hk.off hg ho hl,g4⟩
theorem zej.from {AA:World->Value->List Nd->(Nat->Prop)->Prop} {w w1 w':World} {a:Value} {ns:List Nd} {F:Nat->Prop} {g kb:Nat} {rest:List Int} {R:List Nd->Int->Prop} {e:Ending} (h:zej AA w1 a ns F g kb rest R e w') (hb:Below w.heap.size w w1):zej AA w a ns F g kb rest R e w':=by
 obtain ⟨r,more,F',g0,g1,g2,g3,g4⟩:=h
 refine ⟨r,more,F',g0,g1,fun b q=>?_,(OffF.of hb).off g3 (fun b q=>Or.inl q),g4⟩
 rcases g2 b q with z | z
 ·exact Or.inl z
 ·exact Or.inr (qH hb.size z)
theorem zej.then {AA:World->Value->List Nd->(Nat->Prop)->Prop} {w w1 w':World} {a:Value} {ns more:List Nd} {F F1:Nat->Prop} {g kb:Nat} {rest:List Int} {R:List Nd->Int->Prop} {e:Ending} (h2:∀b,F1 b->F b\/w.heap.size<=b) (h3:OffF (wg F g) w w1) (hk:BKs w1 g a F1 kb rest) (hg:¬F1 g) (h:Got AA w1 a (ns++more) F1 R e w'):zej AA w a ns F g kb rest R e w':=by
 obtain ⟨r,more2,F',g0,g1,g2,g3,g4⟩:=h
 rw[jQ] at g1 g4
 refine ⟨r,more++more2,F',g0,g1,fun b q=>?_,h3.off (g3.wg g) (zeo h2),hk.off hg g3 g2,g4⟩
 rcases g2 b q with z | z
 ·exact h2 b z
 ·exact Or.inr (qH h3.size z)
theorem zej.mono {AA:World->Value->List Nd->(Nat->Prop)->Prop} {w w':World} {a:Value} {ns:List Nd} {F:Nat->Prop} {g kb:Nat} {rest:List Int} {R R':List Nd->Int->Prop} {e:Ending} (h:zej AA w a ns F g kb rest R e w') (hr:∀more r,R (ns++more) r->zaA (ns++more)->zac (ns++more) r->R' (ns++more) r) (S:ArenaMid AA):zej AA w a ns F g kb rest R' e w':=by
 obtain ⟨r,more,F',g0,g1,g2,g3,gk,g4⟩:=h
 exact ⟨r,more,F',g0,g1,g2,g3,gk,g4.imp id (fun q=>⟨q.1,hr more r q.2 (S.fine g1) q.1⟩)⟩
def zfM (G:Tr->List Int->Prop):List Tr->List Int->Prop
 | [],ks=>ks=[]
 | p::ps,ks=>∃x y,ks=x++y/\G p x/\zfM G ps y
def ztZ (D:List Nat->List Nat->Prop) (k:Nat) (t:Tr) (n:Int):Prop:=0<=n/\n<4/\∀l bits:List Nat,(∀b∈l,b<256)->l.length<=8->D l bits->∀i,i<l.length+1->zoT bits n.toNat false i i=zae l k (zpm t) i i
def zbZ (D:List Nat->List Nat->Prop):Nat->Tr->List Int->Prop
 | 0,_,_=>False
 | k+1,t,ks=>if 8<=t.kind then ∃n,ks=[n]/\ztZ D (k+1) t n else zfM (fun p x=>zbZ D k p x) t.parts ks
section
variable {AA:World->Value->List Nd->(Nat->Prop)->Prop}
def zj2 (D:List Nat->List Nat->Prop) (AA:World->Value->List Nd->(Nat->Prop)->Prop) (k:Nat):Prop:=∀(t:Tr) {w:World} {a:Value} {ns:List Nd} {F:Nat->Prop} (g kb:Nat) (ks rest:List Int),AA w a ns F->BKs w g a F kb (ks++rest)->¬F g->zq0 (wg F g) w k t->zah k t=true->zbZ D k t ks->zam k t<=1000 ->
 Calls Tryz.prog 52 #[.pointer (some ⟨g,0,none⟩),.agg t.cs.toArray] w (zej AA w a ns F g kb rest (fun ms r=>zb4 D ms r (fun l=>zae l k t)))
def zix (D:List Nat->List Nat->Prop) (ns:List Nd) (k:Nat) (xs:List Int) (ps:List Tr):Prop:=xs.length=ps.length/\∀(i:Nat) (h1:i<xs.length) (h2:i<ps.length),xs[i]=-1\/(zac ns xs[i]/\zb4 D ns xs[i] (fun l=>zae l k ps[i]))
theorem zix.nil {ns:List Nd} {k:Nat}:zix D ns k [] []:=⟨rfl,fun i h1 _=>absurd h1 (jD _)⟩
theorem zix.up {ns:List Nd} {k:Nat} {xs:List Int} {ps:List Tr} (h:zix D ns k xs ps) (more:List Nd):zix D (ns++more) k xs ps :=
 ⟨h.1,fun i h1 h2=>(h.2 i h1 h2).imp id (fun q=>⟨q.1.up more,q.2.up q.1 more⟩)⟩
theorem zix.snoc {ns:List Nd} {k:Nat} {xs:List Int} {ps:List Tr} {x:Int} {p:Tr} (h:zix D ns k xs ps) (hx:x=-1\/(zac ns x/\zb4 D ns x (fun l=>zae l k p))):zix D ns k (xs++[x]) (ps++[p]):=by
 refine ⟨by rw[qF,qF,h.1];rfl,fun i h1 h2=>?_⟩
 rw[qF,yE] at h1
 by_cases e:i<xs.length
 ·have e2:i<ps.length:=by rw[<-h.1];exact e
  rw[yP e,yP e2]
  exact h.2 i e e2
 ·have e1:i=xs.length:=by omega
  have e2:i=ps.length:=by rw[<-h.1];exact e1
  rw[gC (by omega),gC (by omega)]
  simpa using hx
theorem zix.num {ns:List Nd} {k:Nat} {xs:List Int} {ps:List Tr} (h:zix D ns k xs ps):∀x∈xs,zij ns x:=fun x hx=>by
 obtain ⟨i,hi,rfl⟩:=yT hx
 exact (h.2 i hi (by rw[<-h.1];exact hi)).imp id (fun q=>q.1)
theorem zix.all {ns:List Nd} {k:Nat} {xs:List Int} {ps:List Tr} (h:zix D ns k xs ps) (hi:∀x∈xs,zac ns x):zoA D ns k xs ps:=⟨h.1,hi,fun i h1 h2=>by
 rcases h.2 i h1 h2 with q | q
 ·exact absurd (q▸hi _ (qG h1)) zeD
 ·exact q.2⟩
def ziy (xs:List Int) (n:Nat):Array Value:=((xs++List.replicate (n-xs.length) 0).map (Value.int .i64)).toArray
theorem znC (n:Nat):madeCells #[.int .i64 0] n=ziy [] n:=by
 unfold madeCells ziy
 apply Array.ext
 ·simp
 ·intro i h1 h2
  simp[Nat.mod_one]
theorem zpE {xs:List Int} {n:Nat} (x:Int) (h:xs.length<n):(ziy xs n).setIfInBounds xs.length (.int .i64 x)=ziy (xs++[x]) n:=by
 unfold ziy
 rw[qA]
 congr 1
 obtain ⟨m,hm⟩:∃m,n-xs.length=m+1:=⟨n-xs.length-1,by omega⟩
 rw[qF,yE,hm,show n-(xs.length+1)=m by omega,kS,jE,jW,List.set_append,if_neg (by simp)]
 simp
theorem zpF {xs:List Int} {n:Nat} (h:xs.length<n):(ziy xs n)[xs.length]?=some (.int .i64 0):=by
 unfold ziy
 obtain ⟨m,hm⟩:∃m,n-xs.length=m+1:=⟨n-xs.length-1,by omega⟩
 rw[hm,kS]
 simp
theorem zkQ {w:World} {g:Nat} {xs:List Int} (h:At w g 3 (ziy xs xs.length)) (hm:xs.length<=1000000):zas w g (.slice (some ⟨g,0,none⟩) xs.length xs.length) xs:=by
 unfold ziy at h
 rw[kK,List.replicate_zero,jA] at h
 refine ⟨by unfold idL;simp,Or.inr ⟨g,xs.length,_,rfl,qL _,h,qL _,by unfold maxLen;omega,by simp,?_⟩⟩
 unfold idL
 rw[Nat.mul_one,xL (by simp)]
theorem zkR (n:Nat) (hn:n<=100000) (W:World):(Instr.makeSlice 80 (.int .i64 (n:Int)) (.int .i64 (n:Int))).run Tryz.prog W=.ok (.slice (some ⟨W.heap.size,0,none⟩) n n) (W.alloc (.cells (ziy [] n) 3)):=by
 rw[<-znC]
 exact run_make_row' (P:=Tryz.prog) 80 3 (.int .i64 0) 8 Tryz.underlying80 zcJ rfl .i64 .i64 n (by omega) (by omega) W
theorem BKs.set_off {w:World} {g kb h o:Nat} {a:Value} {F:Nat->Prop} {ks:List Int} (q:BKs w g a F kb ks) (h1:h≠g) (h2:h≠kb) (x:Value):BKs (w.setCell ⟨h,o,none⟩ x) g a F kb ks:=by
 obtain ⟨v,z1,hb,A,c,e,hlc,hr⟩:=q
 refine ⟨v,z1.other (show g≠h from fun e=>h1 e.symm) _,by rw[jC];exact hb,A,c,e,hlc,fun h0=>?_⟩
 obtain ⟨off,e2,hx,hc⟩:=hr h0
 exact ⟨off,e2,hx,fun j hj=>by rw[yA (w:=w) (jL w ⟨h,o,none⟩ x kb (fun e=>h2 e.symm))];exact hc j hj⟩
structure NJ (D:List Nat->List Nat->Prop) (AA:World->Value->List Nd->(Nat->Prop)->Prop) (w:World) (a:Value) (ns:List Nd) (F:Nat->Prop) (k:Nat) (g kb:Nat) (ps:List Tr) (all rest:List Int) (j:Nat) (W:World) (xs:List Int) (more:List Nd) (F':Nat->Prop):Prop where
 ab:AA W a (ns++more) F'
 low:∀b,F' b->F b\/w.heap.size+1<=b
 off:OffF (wg F g) w W
 len:xs.length=j
 size:w.heap.size+1<=W.heap.size
 row:At W w.heap.size 3 (ziy xs ps.length)
 all:zix D (ns++more) k xs (ps.take j)
 looks:∃y,zfM (fun p x=>zbZ D k p x) (ps.drop j) y/\BKs W g a F' kb (y++rest)
theorem zj3 (S:zaI AA) (k:Nat) (IH:zj2 D AA k) (A:Option Addr) (c:Nat) (ps:List Tr) {w:World} {a:Value} {ns:List Nd} {F:Nat->Prop} (g kb:Nat) (all rest:List Int) (h:AA w a ns F) (hb:BKs w g a F kb (all++rest)) (hgF:¬F g) (hs:zik (wg F g) w k A ps) (hf:∀p∈ps,zah k p=true) (hl:zfM (fun p x=>zbZ D k p x) ps all) (hz:∀p∈ps,zam k p<=1000) (hn:ps.length<=1000) :
  Calls Tryz.prog 86 #[.pointer (some ⟨g,0,none⟩),.slice A ps.length c] w fun e w'=>∃(v:Value) (xs:List Int) (more:List Nd) (F':Nat->Prop),e=.returned v/\zas w' w.heap.size v xs/\(∀b,v.ownBlock=some b->¬F' b)/\AA w' a (ns++more) F'/\(∀b,F' b->F b\/w.heap.size<=b)/\OffF (wg F g) w w'/\BKs w' g a F' kb rest/\zix D (ns++more) k xs ps:=by
 have HA:=zqh h
 have HgF:=zqh hgF
 have HS:=zqh hs
 have HFm:=zqh hf
 have HZz:=zqh hz
 have HNn:=zqh hn
 have HLw:=zqh hb.lt
 have HKb:=zqh hb.kb
 have HIH:=zqh IH
 have hmk:=zkR ps.length (by omega) w
 have hJ0:NJ D AA w a ns F k g kb ps all rest 0 (w.alloc (.cells (ziy [] ps.length) 3)) [] [] F :=
  ⟨by rw[jA];exact S.next h (zqb),fun b q=>Or.inl q,OffF.of (zqb),rfl,by rw[qV];exact qL _,At.new _ _ _,by rw[List.take_zero];exact zix.nil,all,by rw[List.drop_zero];exact hl,hb.next (zqb)⟩
 have HJ0:=zqh hJ0
 clear h hb hgF hs hf hl hz IH hJ0
 go_enter Tryz.func86,Tryz.ntmps86
 go_wp2_with fail
 go_loopw [13] (fun i wr=>∃(j:Nat) (xs:List Int) (more:List Nd) (F':Nat->Prop),j<=ps.length/\i=.int .i64 j/\Hid (NJ D AA w a ns F k g kb ps all rest j wr xs more F')) (fun i _=>ps.length-(intOf i).toNat)
 case atStart=>exact ⟨0,[],[],F,qK _,rfl,HJ0⟩
 case round =>
  clear hmk
  obtain ⟨j,xs,more,F',hj,rfl,HJ⟩:=hrel
  by_cases hlt:j<ps.length
  ·obtain ⟨b,off,ha,hb,hr⟩:=(HS.out wr HJ.out.off).1 (by omega)
   have HR:=zqh (hr j hlt)
   have hA2:=zfE wr ps[j]
   have HBx:=zqh (zbG wr ps[j])
   have hlow:∀b,F' b->F b\/w.heap.size<=b:=fun b z=>by
    rcases HJ.out.low b z with z | z
    ·exact Or.inl z
    ·exact Or.inr (by omega)
   obtain ⟨y,hgd,hbk⟩:=HJ.out.looks
   rw[yU hlt] at hgd
   obtain ⟨y1,y2,rfl,hg1,hg2⟩:=hgd
   rw[jQ] at hbk
   have HG2:=zqh hg2
   have hgF':¬F' g:=fun z=>by
    rcases HJ.out.low _ z with z | z
    ·exact HgF.out z
    ·have:=HLw.out;omega
   have hmem:=qG hlt
   have HNo:=zqh (HIH.out ps[j] g kb y1 (y2++rest) (S.next HJ.out.ab HBx.out) (hbk.next HBx.out) hgF' ((HS.out.part j hlt).step (HJ.out.off.then HBx.out) (zeo hlow)) (HFm.out _ hmem) hg1 (HZz.out _ hmem))
   have HgF':=zqh hgF'
   have HLow:=zqh hlow
   clear hr hb hlow hgF' hmem hbk hg1 hg2
   rw[ha]
   clear ha
   have hjz:(0:Int)<=(j:Int):=by omega
   have hjn:(j:Int)<(ps.length:Int):=by omega
   go_wp2_with (first
    |(refine wpList_load_mid rfl 49 _ rfl b (off+j*9) rfl ps[j].cs _ HR.out Tryz.underlying49 rfl (by rw[Tr.cs_length];kernel_rfl) ?_)
    |(refine qN rfl 49 _ _ rfl wr.heap.size ps[j].cs.toArray rfl rfl 49 Tr.blank.cs.toArray (At.new _ _ _) (by kernel_rfl) rfl (Tr.one _) ?_;change Exit.then _ _ _ _ (zjT wr ps[j]))
    |(refine jU rfl 49 _ rfl wr.heap.size rfl 49 ps[j].cs.toArray (0,0) _ hA2 Tryz.underlying49 rfl (by kernel_rfl) ?_) | fail)
   refine HNo.out.mono ?_
   rintro e W6 ⟨x,more2,F2,rfl,k1,k2,k3,kz,k6⟩
   have hoB:OffF (wg F' g) wr W6:=(OffF.of HBx.out).off k3 (fun b z=>Or.inl z)
   have hrow:At W6 w.heap.size 3 (ziy xs ps.length):=(hoB.block _ (At.lt HJ.out.row) (fun z=>by
    rcases z with z | z
    ·rcases HJ.out.low _ z with z | z
     ·have:=S.low HA.out _ z;omega
     ·omega
    ·have:=HLw.out;omega)).trans HJ.out.row
   have hcj:W6.cell? ⟨w.heap.size,j,none⟩=some (.int .i64 0):=by
    have h1:=hrow.cell j
    rw[h1]
    have h2:=zpF (xs:=xs) (n:=ps.length) (by rw[HJ.out.len];exact hlt)
    rw[HJ.out.len] at h2
    exact h2
   have fj:=hrow.free j
   have HN7:Hid (NJ D AA w a ns F k g kb ps all rest (j+1) (W6.setCell ⟨w.heap.size,j,none⟩ (.int .i64 x)) (xs++[x]) (more++more2) F2):=zqh (by
    have hnew:¬F' w.heap.size:=fun z=>by
     rcases HJ.out.low _ z with z | z
     ·have:=S.low HA.out _ z;omega
     ·omega
    have hsz:wr.heap.size<=(zjT wr ps[j]).heap.size:=HBx.out.size
    have hF2:¬F2 w.heap.size:=fun z=>by
     rcases k2 _ z with z | z
     ·exact hnew z
     ·have:=HJ.out.size;omega
    have hbnd:∀b,w.heap.size≠b->(W6.setCell ⟨w.heap.size,j,none⟩ (.int .i64 x)).heap[b]?=W6.heap[b]?:=fun b hb=>jL W6 ⟨w.heap.size,j,none⟩ _ b (fun e=>hb e.symm)
    have ho:OffF (wg F g) w W6:=HJ.out.off.off hoB (zeo HLow.out)
    have hxl:=HJ.out.len
    refine ⟨S.keep (by rw[<-jQ];exact k1) (fun b z=>hbnd b (fun e=>hF2 (by rw[e];exact z))),fun b z=>?_,⟨ho.os,ho.tape,ho.output,by rw[jC];exact ho.size,fun b hb hn=>?_⟩,by rw[qF,hxl];rfl,by rw[jC];exact qH HJ.out.size hoB.size,?_,?_,?_⟩
    ·rcases k2 b z with z | z
     ·exact HJ.out.low b z
     ·have:=HJ.out.size;exact Or.inr (by omega)
    ·rw[hbnd b (by omega)]
     exact ho.block b hb hn
    ·have h1:=hrow.set j (.int .i64 x)
     have h2:=zpE (xs:=xs) (n:=ps.length) x (by rw[hxl];exact hlt)
     rw[hxl] at h2
     rw[h2] at h1
     exact h1
    ·rw[<-jQ,qW hlt]
     exact (HJ.out.all.up more2).snoc k6
    ·exact ⟨y2,HG2.out,kz.set_off (by have:=HLw.out;omega) (by have:=HKb.out;omega) _⟩)
   clear k1 k2 k3 k6 kz hoB hrow
   go_wp2_with fail
   exact ⟨⟨j+1,xs++[x],more++more2,F2,by omega,by go_num,HN7⟩,by simp[intOf]<;>omega⟩
  ·obtain rfl:j=ps.length:=by omega
   go_wp2_with fail
   go_ret
   have hl:=HJ.out.len
   have hall:=HJ.out.all
   rw[qQ] at hall
   have hrw:zas wr w.heap.size (.slice (some ⟨w.heap.size,0,none⟩) ps.length ps.length) xs:=by
    have h1:=zkQ (xs:=xs) (by rw[hl];exact HJ.out.row) (by omega)
    rw[hl] at h1
    exact h1
   obtain ⟨y,hy1,hy2⟩:=HJ.out.looks
   rw[kW] at hy1
   obtain rfl:y=[]:=hy1
   refine ⟨_,xs,more,F',rfl,hrw,fun b e z=>?_,HJ.out.ab,fun b z=>?_,HJ.out.off,hy2,hall⟩
   ·injection e with e
    subst e
    rcases HJ.out.low _ z with z | z
    ·have:=S.low HA.out _ z;simp at this
    ·simp at z;omega
   ·rcases HJ.out.low b z with z | z
    ·exact Or.inl z
    ·exact Or.inr (by omega)
end
end

section
open Go.RowKit
theorem zep (k:Nat) (t:Tr):(sz k t:Int)=zam k t:=Int.toNat_of_nonneg (zcA k t)
theorem zhF (k:Nat) (l:List Tr) (h:zb3 (l.map (zam k))<=1000):((l.map (sz k)).sum:Int)=zb3 (l.map (zam k)):=by
 have key:∀r:List Tr,zb3 (r.map (zam k)).reverse<=1000->((r.map (sz k)).sum:Int)=zb3 (r.map (zam k)).reverse:=fun r=>by
  induction r with
  | nil=>exact fun _=>rfl
  | cons a r ih =>
   intro h2
   have em:((a::r).map (zam k)).reverse=(r.map (zam k)).reverse++[zam k a]:=by rw[jW,List.reverse_cons]
   rw[em,zeT] at h2 ⊢
   have hge:0<=zb3 (r.map (zam k)).reverse:=zeu _ (fun x hx=>by
    rw[List.mem_reverse,yN] at hx
    obtain ⟨p,_,rfl⟩:=hx
    exact zcA k p)
   have ha:=zcA k a
   have hc:¬1001<zb3 (r.map (zam k)).reverse+zam k a:=fun q=>by rw[zaw q] at h2;omega
   rw[zaB hc] at h2 ⊢
   have h3:=ih (by omega)
   have h4:=zep k a
   rw[jW,kM]
   omega
 have h5:(l.reverse.map (zam k)).reverse=l.map (zam k):=by rw[List.map_reverse,List.reverse_reverse]
 have h6:(l.reverse.map (sz k)).sum=(l.map (sz k)).sum:=by rw[List.map_reverse,List.sum_reverse]
 have:=key l.reverse (by rw[h5];exact h)
 rw[h5,h6] at this
 exact this
theorem zgP (k:Nat) (l:List Tr):0<=zb3 (l.map (zam k)):=zeu _ (fun x hx=>by
 rw[yN] at hx
 obtain ⟨p,_,rfl⟩:=hx
 exact zcA k p)
theorem zpG {k:Nat} {t:Tr} (h:zam (k+1) t<=1000) (h7:¬t.kind=7):sz (k+1) t=(t.parts.map (sz k)).sum+1:=by
 have e:zam (k+1) t=zal (zb3 (t.parts.map (zam k))+1):=by show zal (_+1)=_;rw[if_neg h7]
 have hc:¬1001<zb3 (t.parts.map (zam k))+1:=fun q=>by rw[e,zaw q] at h;omega
 rw[zaB hc] at e
 have h1:=zhF k t.parts (by omega)
 have h2:=zep (k+1) t
 omega
theorem zpH {k:Nat} {t:Tr} (h:zam (k+1) t<=1000) (h7:t.kind=7):sz (k+1) t=(t.parts.map (sz k)).sum*(zaC t.lo t.hi).toNat+1:=by
 have e:zam (k+1) t=zal (zb3 (t.parts.map (zam k))*zaC t.lo t.hi+1):=by show zal (_+1)=_;rw[if_pos h7]
 have hT:=zdF t.lo t.hi
 have hs0:=zgP k t.parts
 have hc:¬1001<zb3 (t.parts.map (zam k))*zaC t.lo t.hi+1:=fun q=>by rw[e,zaw q] at h;omega
 rw[zaB hc] at e
 have hm:zb3 (t.parts.map (zam k))*1<=zb3 (t.parts.map (zam k))*zaC t.lo t.hi:=Int.mul_le_mul_of_nonneg_left hT hs0
 rw[Int.mul_one] at hm
 have h1:=zhF k t.parts (by omega)
 have h2:=zep (k+1) t
 have h3:((zaC t.lo t.hi).toNat:Int)=zaC t.lo t.hi:=Int.toNat_of_nonneg (by omega)
 apply Int.ofNat_inj.1
 rw[Int.natCast_add,Int.natCast_mul,h3,h1,h2,e]
 rfl
theorem zi4 {k:Nat} {t:Tr} (h:zam (k+1) t<=1000):(t.parts.map (sz k)).sum+1<=sz (k+1) t/\sz (k+1) t<=1000:=by
 have h2:=zep (k+1) t
 refine ⟨?_,by omega⟩
 by_cases h7:t.kind=7
 ·rw[zpH h h7]
  have hT:=zdF t.lo t.hi
  have:(t.parts.map (sz k)).sum*1<=(t.parts.map (sz k)).sum*(zaC t.lo t.hi).toNat:=Nat.mul_le_mul_left _ (by omega)
  omega
 ·rw[zpG h h7];exact qL _
theorem zhG {k:Nat}:∀{l:List Tr} {p:Tr},p∈l->sz k p<=(l.map (sz k)).sum
 | [],_,h=>by cases h
 | a::l,p,h=>by
  rw[jW,kM]
  rcases List.mem_cons.1 h with rfl | h
  ·omega
  ·have:=zhG (k:=k) h;omega
theorem zeq {k:Nat} {t:Tr} (h:zah k t=true):1<=sz k t:=by
 cases k with
 | zero=>cases h
 | succ k =>
  have h2:=zep (k+1) t
  have e:zam (k+1) t=zal ((if t.kind=7 then zb3 (t.parts.map (zam k))*zaC t.lo t.hi else zb3 (t.parts.map (zam k)))+1):=rfl
  have hs0:=zgP k t.parts
  have hx:0<=(if t.kind=7 then zb3 (t.parts.map (zam k))*zaC t.lo t.hi else zb3 (t.parts.map (zam k))):=by
   split
   ·exact Int.mul_nonneg hs0 (by have:=zdF t.lo t.hi;omega)
   ·exact hs0
  have:1<=zam (k+1) t:=by
   rw[e]
   unfold zal
   split<;>omega
  omega
theorem zdb {k:Nat}:∀{l:List Tr} (i:Nat) (h:i<l.length),(∀p∈l,1<=sz k p)->sz k l[i]+(l.length-1)<=(l.map (sz k)).sum
 | [],i,h,_=>absurd h (jD _)
 | a::l,0,_,hp=>by
  have hl:∀m:List Tr,(∀p∈m,1<=sz k p)->m.length<=(m.map (sz k)).sum:=fun m=>by
   induction m with
   | nil=>exact fun _=>qL _
   | cons b m ih =>
    intro h
    have h1:=ih (fun p q=>h p (qX _ q))
    have h2:=h b (by simp)
    rw[jW,kM,jX]
    omega
  have:=hl l (fun p q=>hp p (qX _ q))
  rw[jW,kM,jX]
  simp
  omega
 | a::l,i+1,h,hp=>by
  have h0:i<l.length:=by simpa using h
  have h1:=zdb i h0 (fun p q=>hp p (qX _ q))
  have h2:=hp a (by simp)
  rw[jW,kM,jX]
  simp
  omega
end
end Go.Proofs.YtdmodhnhldbpnaaGreat
