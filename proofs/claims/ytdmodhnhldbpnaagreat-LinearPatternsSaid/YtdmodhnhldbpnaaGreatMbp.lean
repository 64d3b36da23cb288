/- Joined: LwNode, LwAheadOne, LwAhead, Has, LwLeftB. -/
import Derived.Test.YtdmodhnhldbpnaaGreatMbo
import Derived.Test.YtdmodhnhldbpnaaGreatMao
import Derived.Test.YtdmodhnhldbpnaaGreatMan
import Derived.Deep.OwnRows
import Derived.Test.YtdmodhnhldbpnaaGreatMap
import Derived.Test.YtdmodhnhldbpnaaGreatMam
import Derived.Deep.RegionHeld3
import Derived.Test.YtdmodhnhldbpnaaGreatProg
import Derived.Test.YtdmodhnhldbpnaaGreatMaa
import Derived.Test.YtdmodhnhldbpnaaGreatMzy
import Derived.Test.YtdmodhnhldbpnaaGreatAid
/- node of package linear. -/
set_option linter.unusedSimpArgs false
set_option linter.unusedVariables false
set_option maxHeartbeats 8000000
set_option maxRecDepth 100000
namespace Go.Proofs.YtdmodhnhldbpnaaGreat
section
open Go.RowKit
def zll (xs:List Int) (n:Nat):Array Value:=((xs++List.replicate (n-xs.length) 0).map (Value.int .i64)).toArray
theorem zop (n:Nat):madeCells #[.int .i64 0] n=zll [] n:=by
 unfold madeCells zll
 apply Array.ext
 ·simp
 ·intro i h1 h2
  simp[Nat.mod_one]
theorem zqv {xs:List Int} {n:Nat} (x:Int) (h:xs.length<n):(zll xs n).setIfInBounds xs.length (.int .i64 x)=zll (xs++[x]) n:=by
 unfold zll
 rw[qA]
 congr 1
 obtain ⟨m,hm⟩:∃m,n-xs.length=m+1:=⟨n-xs.length-1,by omega⟩
 rw[qF,yE,hm,show n-(xs.length+1)=m by omega,kS,jE,jW,List.set_append,if_neg (by simp)]
 simp
theorem zqw {xs:List Int} {n:Nat} (h:xs.length<n):(zll xs n)[xs.length]?=some (.int .i64 0):=by
 unfold zll
 obtain ⟨m,hm⟩:∃m,n-xs.length=m+1:=⟨n-xs.length-1,by omega⟩
 rw[hm,kS]
 simp
theorem zoq {w:World} {g:Nat} {xs:List Int} (h:At w g 3 (zll xs xs.length)):zb1 w (.slice (some ⟨g,0,none⟩) xs.length xs.length) xs:=by
 unfold zll at h
 rw[kK,List.replicate_zero,jA] at h
 refine ⟨_,_,rfl,fun h0=>⟨g,0,rfl,h.lt,fun j hj=>?_⟩⟩
 rw[yH,h.cell j]
 simp[hj]
theorem zs0 (n:Nat) (hn:n<=100000) (W:World):(Instr.makeSlice 80 (.int .i64 (n:Int)) (.int .i64 (n:Int))).run Tryz.prog W=.ok (.slice (some ⟨W.heap.size,0,none⟩) n n) (W.alloc (.cells (zll [] n) 3)):=by
 rw[<-zop]
 exact run_make_row' (P:=Tryz.prog) 80 3 (.int .i64 0) 8 Tryz.underlying80 zcJ rfl .i64 .i64 n (by omega) (by omega) W
theorem zbP.list {X:Nat->Prop} {w:World} {v:Value} {l:List Int} (h:zbP X w v l):zb1 w v l:=by
 obtain ⟨A,c,e,_,_,_,h5⟩:=h.here
 refine ⟨A,c,e,fun h0=>?_⟩
 obtain ⟨b,off,e2,hb,hc⟩:=h5 h0
 exact ⟨b,off,e2,hb,fun j hj=>by rw[<-zay hj];exact hc j hj⟩
theorem zhe (w:World) (g i:Nat) (v:Value):w.grownBy (w.setCell ⟨g,i,none⟩ v) (some g):=⟨rfl,rfl,rfl,by rw[jC];exact qL _,fun b hb hn=>jL w ⟨g,i,none⟩ v b (fun e=>hn (by rw[e]))⟩
def zhQ (ns ns1:List Nd) (xs:List Int) (f:Fm):Prop:=∀(l bits:List Nat) (i j:Nat),V0 l bits i j->xs.map (fun x=>zai l bits ns1 x i j)=f.map (fun q=>q.all (fun n=>zai l bits ns n i j))
theorem zor {α:Type} (l:List α) (P:α->Bool):l.any P=(l.map P).any (fun b=>b):=by rw[List.any_map];rfl
theorem zhQ.or {ns ns1:List Nd} {xs:List Int} {f:Fm} (h:zhQ ns ns1 xs f) (l bits:List Nat) (i j:Nat) (hv:V0 l bits i j):xs.any (fun x=>zai l bits ns1 x i j)=fP (fun n=>zai l bits ns n i j) f:=by
 unfold fP
 rw[zor,zor f,h l bits i j hv]
theorem zhQ.up {ns ns1:List Nd} {xs:List Int} {f:Fm} (h:zhQ ns ns1 xs f) (hx:∀x∈xs,zac ns1 x) (more:List Nd):zhQ ns (ns1++more) xs f:=fun l bits i j hv=>by
 rw[<-h l bits i j hv]
 exact gL (fun x hxm=>by rw[zav l bits more (hx x hxm)])
def zqx (p:LP) (w:World) (ns:List Nd) (F:Nat->Prop) (many:Bool) (f:Fm) (e:Ending) (w':World):Prop :=
 ∃(r:Int) (ns1:List Nd) (F1:Nat->Prop) (many1:Bool),e=.returned (.int .i64 r)/\za8 p w ns F many w' ns1 F1 many1/\((r=-1/\many1=true)\/zac ns1 r)/\(many1=false->∀(l bits:List Nat) (i j:Nat),V0 l bits i j->zai l bits ns1 r i j=fP (fun n=>zai l bits ns n i j) f)
section
variable {p:LP} {w:World} {ns:List Nd} {F:Nat->Prop} {many:Bool}
theorem zvl {f:Fm} {v:Value} (h:LW p w ns F many) (hv:zaJ (XY p F) w v f) (hf:zbf (Ls ns) f) :
  Calls Tryz.prog 157 #[.pointer (some ⟨p.gw,0,none⟩),v] w (zqx p w ns F many f):=by
 obtain ⟨A,c,rfl⟩:=hv.at
 have hfw:=hf.few
 obtain ⟨p1,hp1⟩:∃p1:LP,p1={p with y:=fun b=>p.y b\/b=w.heap.size}:=⟨_,rfl⟩
 have hgw:p1.gw=p.gw:=by rw[hp1]
 have hpa:p1.a=p.a:=by rw[hp1]
 have hy1:∀b,p.y b->p1.y b:=fun b q=>by rw[hp1];exact Or.inl q
 have hyg:p1.y w.heap.size:=by rw[hp1];exact Or.inr rfl
 obtain ⟨w1,hw1⟩:∃w1,w1=w.alloc (.cells (zll [] f.length) 3):=⟨_,rfl⟩
 have hb1:Below w.heap.size w w1:=by rw[hw1];exact zqb
 have hsz1:w1.heap.size=w.heap.size+1:=by rw[hw1,qV]
 have hL1:LW p1 w1 ns F many:=by
  rw[hp1]
  exact h.addY hb1 _ (fun b q=>q.imp id (fun e=>by omega))
 have hA1:At w1 w.heap.size 3 (zll [] f.length):=by rw[hw1];exact At.new _ _ _
 have hXB:∀G b,XB p1 G b↔XB p G b:=fun G b=>by rw[hp1];exact Iff.rfl
 have hG1:za8 p1 w ns F many w1 ns F many:=⟨⟨[],(jA _).symm⟩,hL1,fun b q=>Or.inl q,OffF.of hb1,id⟩
 have hK1:zaJ (XY p1 F) w (.slice A f.length c) f:=hv.step (OffF.of (qT _ _)) (fun b q=>by
  rw[hp1] at q
  rcases q with q | q | q
  ·exact Or.inl (Or.inl q)
  ·exact Or.inl (Or.inr q)
  ·exact Or.inr (by omega))
 have HBk:Hid (∀{w2:World} {ns2:List Nd} {F2:Nat->Prop} {m2:Bool},za8 p1 w ns F many w2 ns2 F2 m2->za8 p w ns F many w2 ns2 F2 m2):=zqh (fun g=>by
  rw[hp1] at g
  exact za8.lessY g (fun b q=>Or.inl q))
 have HNx:Hid (∀G,(∀b,G b->F b\/w.heap.size+1<=b)->¬XB p1 G w.heap.size):=zqh (fun G hG q=>by
  rcases (hXB G _).1 q with q | q
  ·rcases hG _ q with q | q
   ·have:=h.low _ (Or.inl q);omega
   ·omega
  ·have:=h.low _ (Or.inr q);omega)
 have HK1:=zqh hK1
 have HYg:=zqh hyg
 have HG1:=zqh hG1
 have HA1:=zqh hA1
 have HIn:=zqh hf
 have HFw:=zqh h.few
 have HPa:=zqh hpa
 obtain ⟨gp,hgp⟩:=zar.ptr h.ar
 have HP:=zqh hgp
 have hmk:=zs0 f.length (by omega) w
 rw[<-hw1] at hmk
 rw[<-hgw]
 clear h hv hf hL1 hA1 hG1 hK1 hb1 hgw hpa hy1 hyg hXB hp1 hw1 hgp
 go_enter Tryz.func157,Tryz.ntmps157
 go_wp2_with fail
 go_loopw [13] (fun v wr=>∃(j:Nat) (xs:List Int) (ns1:List Nd) (F1:Nat->Prop) (many1:Bool),j<=f.length/\v=.int .i64 j/\xs.length=j/\w.heap.size+1<=wr.heap.size/\Hid (∀b,F1 b->F b\/w.heap.size+1<=b)/\Hid (za8 p1 w ns F many wr ns1 F1 many1)/\Hid (At wr w.heap.size 3 (zll xs f.length))/\Hid (∀x∈xs,zac ns1 x\/(x=-1/\many1=true))/\Hid ((∀x∈xs,zac ns1 x)->zhQ ns ns1 xs (f.take j))) (fun v _=>f.length-(intOf v).toNat)
 case atStart=>exact ⟨0,[],ns,F,many,qK _,rfl,rfl,by omega,zqh (fun b q=>Or.inl q),HG1,HA1,zqh (fun x hx=>by cases hx),zqh (fun _ l bits i j _=>rfl)⟩
 case round =>
  clear HG1 HA1 hmk
  obtain ⟨j,xs,ns1,F1,many1,hj,rfl,hxl,hsz,HFl,HG,HA,HX,HR⟩:=hrel
  obtain ⟨c0,_⟩:=HG.out.lw.cells
  rw[HPa.out,HP.out] at c0
  by_cases hlt:j<f.length
  ·have h1:(0:Int)<=(j:Int):=by omega
   have h2:(j:Int)<(f.length:Int):=by omega
   obtain ⟨b,off,A2,c2,rfl,hbl,q0,hkp⟩:=(HK1.out.grow HG.out).part j hlt
   obtain ⟨x,hx⟩:∃x,za5 f j=x:=⟨_,rfl⟩
   rw[hx] at q0 hkp
   have hxe:f[j]=x:=by rw[<-hx,zaz hlt]
   have HXe:Hid (f[j]=x):=zqh hxe
   have hxm:x∈f:=by rw[<-hxe];exact qG hlt
   have hxin:∀n∈x,zac ns n:=fun n hn=>zfs.1 (HIn.out.inn x hxm n hn)
   have hxl2:x.length<=20000:=by
    have:=HIn.out.part (zjl ns) hxm
    rw[zf5] at this
    have:=HFw.out
    omega
   have HXi:=zqh hxin
   have HC:=zqh (ztJ zia x HG.out.lw.ar hkp.list (fun n hn=>HG.out.isIn (hxin n hn)) hxl2)
   rw[HPa.out,HP.out] at HC
   clear hx hxe hbl hkp hxm hxin hxl2
   go_wp2_with fail
   refine HC.out.mono ?_
   rintro e w2 g
   rw[<-HP.out,<-HPa.out] at g
   obtain ⟨r,ns2,F2,rfl,g2,hr2⟩:=Got.grow HG.out.lw g
   have HG2:=zqh g2
   have HR2:=zqh hr2
   have HFt:=zqh (zmk g2.lw r)
   clear g g2 hr2 HC
   go_wp2_with fail
   refine HFt.out.mono ?_
   rintro e w3 ⟨rfl,g3⟩
   have HG3:=zqh g3
   have HFl2:Hid (∀b,F2 b->F b\/w.heap.size+1<=b):=zqh (fun b q=>by
    rcases HG2.out.low b q with q | q
    ·exact HFl.out b q
    ·exact Or.inr (by omega))
   have hsz3:w.heap.size+1<=w3.heap.size:=qH hsz (qH HG2.out.size g3.size)
   have hrow:At w3 w.heap.size 3 (zll xs f.length):=(g3.off.block _ (qM (At.lt HA.out) HG2.out.size) (HNx.out _ HFl2.out)).trans ((HG2.out.off.block _ (At.lt HA.out) (HNx.out _ HFl.out)).trans HA.out)
   have hcj:w3.cell? ⟨w.heap.size,j,none⟩=some (.int .i64 0):=by
    rw[hrow.cell j,<-hxl]
    exact zqw (by rw[hxl];exact hlt)
   have fj:=hrow.free j
   have HRow:=zqh hrow
   clear hrow g3 HFt q0
   go_wp2_with fail
   have hg4:=zhe w3 w.heap.size j (.int .i64 r)
   have hlw4:=HG3.out.lw.turnY hg4 (fun b e=>by injection e with e;subst e;exact ⟨HYg.out,HNx.out _ HFl2.out⟩)
   have HG23:=HG2.out.trans HG3.out
   have hG4:za8 p1 w ns F many (w3.setCell ⟨w.heap.size,j,none⟩ (.int .i64 r)) ns2 F2 (many1||decide (r<0)):=by
    have hg:=HG.out.trans HG23
    exact ⟨hg.more,hlw4,hg.low,hg.off.grown hg4 (fun b e=>by injection e with e;subst e;exact Or.inr zqn),hg.mono⟩
   refine ⟨⟨j+1,xs++[r],ns2,F2,many1||decide (r<0),by omega,by go_num,by rw[qF,hxl];rfl,by rw[jC];exact hsz3,HFl2,zqh hG4,zqh ?_,zqh ?_,zqh ?_⟩,by simp[intOf];omega⟩
   ·have h3:=HRow.out.set j (.int .i64 r)
    have h4:=zqv (xs:=xs) (n:=f.length) r (by rw[hxl];exact hlt)
    rw[hxl] at h4
    rwa [h4] at h3
   ·intro z hz
    rcases List.mem_append.1 hz with hz | hz
    ·rcases HX.out z hz with q | ⟨q1,q2⟩
     ·exact Or.inl (HG2.out.isIn q)
     ·exact Or.inr ⟨q1,by rw[q2];rfl⟩
    ·rw[List.mem_singleton.1 hz]
     rcases HR2.out with q | ⟨q,_⟩
     ·exact Or.inr ⟨q,by rw[q];simp⟩
     ·exact Or.inl q
   ·intro hall l bits i k hv
    have hxs:∀z∈xs,zac ns1 z:=fun z hz=>by
     rcases HX.out z hz with q | ⟨q1,q2⟩
     ·exact q
     ·have:=hall z (jH _ hz)
      unfold zac at this
      omega
    have hr:zac ns2 r/\zda ns1 5 x ns2 r:=by
     rcases HR2.out with q | q
     ·have:=hall r (by simp)
      unfold zac at this
      omega
     ·exact q
    obtain ⟨m,hm⟩:=HG2.out.more
    obtain ⟨m0,hm0⟩:=HG.out.more
    have h5:=(HR.out hxs).up hxs m l bits i k hv
    rw[<-hm] at h5
    rw[jE,qW hlt,jE,h5,HXe.out,jW,kL,jW,kL,hr.2 l bits i k hv.1 hv.2.1 hv.2.2,if_neg (by omega)]
    congr 2
    exact zgD (fun n hn=>by rw[hm0,zav l bits m0 (HXi.out n hn)])
  ·obtain rfl:j=f.length:=by omega
   have HRow:=HA
   rw[<-hxl] at HRow
   have hli:=zoq HRow.out
   rw[hxl] at hli
   have hxl20:xs.length<=20000:=by omega
   by_cases hall:∀x∈xs,zac ns1 x
   ·have HC:=zqh (zvy zia xs HG.out.lw.ar hli hall hxl20)
    rw[HPa.out,HP.out] at HC
    have HAll:=zqh hall
    clear hall hli
    go_wp2_with fail
    refine HC.out.mono ?_
    rintro e w2 g
    rw[<-HP.out,<-HPa.out] at g
    obtain ⟨r,ns2,F2,rfl,g2,hr2⟩:=Got.grow HG.out.lw g
    have HG2:=zqh g2
    have HR2:=zqh hr2
    have HFt:=zqh (zmk g2.lw r)
    clear g g2 hr2 HC
    go_wp2_with fail
    refine HFt.out.mono ?_
    rintro e w3 ⟨rfl,g3⟩
    have HG3:=zqh g3
    clear g3
    go_wp2_with fail
    go_ret
    refine ⟨r,ns2,F2,_,rfl,HBk.out ((HG.out.trans HG2.out).trans HG3.out),?_,fun hm l bits i k hv=>?_⟩
    ·rcases HR2.out with q | ⟨q,_⟩
     ·exact Or.inl ⟨q,by rw[q];simp⟩
     ·exact Or.inr q
    ·rcases HR2.out with q | ⟨q,hq⟩
     ·rw[q] at hm;simp at hm
     ·rw[hq l bits i k hv.1 hv.2.1 hv.2.2,if_pos rfl]
      have:=(HR.out HAll.out).or l bits i k hv
      rwa [xL zqn] at this
   ·have hNo:∃x∈xs,¬zac ns1 x:=by
     refine Classical.byContradiction fun q=>hall (fun x hx=>Classical.byContradiction fun q2=>q ⟨x,hx,q2⟩)
    have HMn:Hid (many1=true):=zqh (by
     obtain ⟨x,hx,hn⟩:=hNo
     rcases HX.out x hx with q | ⟨_,q⟩
     ·exact absurd q hn
     ·exact q)
    have HC:=zqh (zqS zar xs HG.out.lw.ar hli hNo hxl20)
    rw[HPa.out,HP.out] at HC
    clear hall hli hNo
    go_wp2_with fail
    refine HC.out.mono ?_
    rintro e w2 ⟨rfl,hb2⟩
    have HG2:=zqh (HG.out.next hb2)
    have HFt:=zqh (zmk HG2.out.lw (-1))
    clear hb2 HC
    go_wp2_with fail
    refine HFt.out.mono ?_
    rintro e w3 ⟨rfl,g3⟩
    have HG3:=zqh g3
    clear g3
    go_wp2_with fail
    go_ret
    exact ⟨-1,ns1,F1,_,rfl,HBk.out (HG2.out.trans HG3.out),Or.inl ⟨rfl,by rw[HMn.out];rfl⟩,fun hm=>by rw[HMn.out] at hm;cases hm⟩
end
end

section
open Go.RowKit
section
variable {p:LP} {w:World} {ns:List Nd} {F:Nat->Prop} {many:Bool}
theorem zkm {w2:World} {ns1:List Nd} {F1:Nat->Prop} {y x r:Int} {many:Bool} (hr:r=-1\/(zac ns1 r/\zhC ns x y ns1 r)) (h:LW p w2 ns1 F1 (many||decide (r<0))) :
  Calls Tryz.prog 27 #[.pointer (some ⟨p.gw,0,none⟩),.int .i64 r] w2 (za9 p w2 ns1 F1 (many||decide (r<0)) fun ms f=>Den V0 0 (zmq ns y x) ms f):=by
 rcases hr with hr | ⟨ri,hc⟩
 ·subst hr
  exact (zfv (-1) (by unfold I64;omega) (Or.inr ⟨by simp,by unfold zac;omega⟩) h).mono (fun e w q=>za9.many (by simp) q)
 ·refine (zfv r (zcg h.few ri) (Or.inl ri) h).mono (fun e w q=>q.mono (fun more f _ _ hR=>?_))
  exact Den.val (show Den V0 0 (zeK ns1 r) _ f from hR) (fun l bits i j hv=>hc l bits i j hv.2.2)
theorem zos (bx by_:Nat) (y x:Int) (h:LW p w ns F many) (h3:At w bx 63 #[.pointer (some ⟨p.gw,0,none⟩)]) (h5:At w by_ 3 #[.int .i64 y]) (n3:¬XB p F bx) (n5:¬XB p F by_) (hy:zac ns y) (hx:zac ns x\/(x=-1/\many=true)) :
  Calls Tryz.prog 156 #[.int .i64 x,.pointer (some ⟨bx,0,none⟩),.pointer (some ⟨by_,0,none⟩)] w (za9 p w ns F many fun ms f=>Den V0 0 (zmq ns y x) ms f):=by
 have HD:=zqh (za8.of h (yF (qT _ w)))
 have hmany:¬zac ns x->many=true:=fun q=>by
  rcases hx with q2 | q2
  ·exact absurd q2 q
  ·exact q2.2
 have HMn:=zqh hmany
 have HCat:Hid (Calls Tryz.prog 123 #[p.a,.int .i64 x,.int .i64 y] w.drew fun e w1=>∃(r:Int) (ns1:List Nd) (F1:Nat->Prop),e=.returned (.int .i64 r)/\za8 p w.drew ns F many w1 ns1 F1 many/\(r=-1\/(zac ns1 r/\zhC ns x y ns1 r))/\(r=-1\/zac ns x)):=zqh (by
  by_cases q:zac ns x
  ·refine (zvz zd9 x y HD.out.lw.ar q hy).mono (fun e w1 g=>?_)
   obtain ⟨r,ns1,F1,e1,g1,g2⟩:=Got.grow HD.out.lw g
   exact ⟨r,ns1,F1,e1,g1,g2,Or.inr q⟩
  ·exact (ztG zar x y HD.out.lw.ar q).mono (fun e w1 g=>⟨-1,ns,F,g.1,za8.of HD.out.lw g.2,Or.inl rfl,Or.inl rfl⟩))
 obtain ⟨gp,hgp⟩:=zar.ptr h.ar
 have HP:=zqh hgp
 have c0:=h.cells.1
 rw[hgp] at c0 HCat
 have c3:=h3.cell 0
 have c5:=h5.cell 0
 have H3:=zqh h3
 have H5:=zqh h5
 have HN3:=zqh n3
 have HN5:=zqh n5
 clear h h3 h5 n3 n5 hy hx hgp hmany
 go_enter Tryz.func156,Tryz.ntmps156
 go_wp2_with fail
 go_region_held3 (fun w'=>w'.cell? ⟨bx,0,none⟩=some (.pointer (some ⟨p.gw,0,none⟩))/\w'.cell? ⟨by_,0,none⟩=some (.int .i64 y)/\w'.cell? ⟨p.gw,0,none⟩=some (.pointer (some ⟨gp,0,none⟩)))
  (first | exact ⟨c3,c5,c0⟩ | exact ⟨d3,d5,d0⟩ | exact ⟨e3,e5,e0⟩ | exact ⟨f3,f5,f0⟩ | fail)
  (first
  |(go_at_call 123
    (with_reducible refine HCat.out.mono ?_)
    rintro e w1 ⟨r,ns1,F1,rfl,g1,g2,g3⟩
    have HG1:=zqh (HD.out.trans g1)
    have HR:=zqh g2
    have HRx:=zqh g3
    have HFt:=zqh (zmk g1.lw r)
    have d3:w1.cell? ⟨bx,0,none⟩=some (.pointer (some ⟨p.gw,0,none⟩)):=At.cell ((HG1.out.off.block bx H3.out.lt HN3.out).trans H3.out) 0
    have d5:w1.cell? ⟨by_,0,none⟩=some (.int .i64 y):=At.cell ((HG1.out.off.block by_ H5.out.lt HN5.out).trans H5.out) 0
    have d0:w1.cell? ⟨p.gw,0,none⟩=some (.pointer (some ⟨gp,0,none⟩)):=by rw[<-HP.out];exact HG1.out.lw.cells.1
    clear g1 g2 g3)
  |(go_at_call 154
    (with_reducible refine HFt.out.mono ?_)
    rintro e w2 ⟨rfl,g2⟩
    have HG2:=zqh (HG1.out.trans g2)
    have e3:w2.cell? ⟨bx,0,none⟩=some (.pointer (some ⟨p.gw,0,none⟩)):=At.cell ((HG2.out.off.block bx H3.out.lt HN3.out).trans H3.out) 0
    have e5:w2.cell? ⟨by_,0,none⟩=some (.int .i64 y):=At.cell ((HG2.out.off.block by_ H5.out.lt HN5.out).trans H5.out) 0
    have e0:w2.cell? ⟨p.gw,0,none⟩=some (.pointer (some ⟨gp,0,none⟩)):=by rw[<-HP.out];exact HG2.out.lw.cells.1
    have HC:=zqh (zkm HR.out g2.lw)
    clear g2)
  |(go_at_call 27
    (with_reducible refine HC.out.mono ?_)
    rintro e w3 ⟨v3,f,ns3,F3,many3,rfl,hg3,hk3,hi3,hd3⟩
    obtain ⟨A3,c3',hv3⟩:=hk3.at
    subst hv3
    have HG3:=zqh (HG2.out.trans hg3)
    have HK3:=zqh hk3
    have HI3:=zqh hi3
    have HD3:=zqh hd3
    have f3:w3.cell? ⟨bx,0,none⟩=some (.pointer (some ⟨p.gw,0,none⟩)):=At.cell ((HG3.out.off.block bx H3.out.lt HN3.out).trans H3.out) 0
    have f5:w3.cell? ⟨by_,0,none⟩=some (.int .i64 y):=At.cell ((HG3.out.off.block by_ H5.out.lt HN5.out).trans H5.out) 0
    have f0:w3.cell? ⟨p.gw,0,none⟩=some (.pointer (some ⟨gp,0,none⟩)):=by rw[<-HP.out];exact HG3.out.lw.cells.1
    clear hg3 hk3 hi3 hd3))
 all_goals
  go_wp2_with fail
  go_ret
  exact za9.done HG3.out HK3.out HI3.out HD3.out
end
end

section
open Go.RowKit
section
variable {p:LP} {w:World} {ns:List Nd} {F:Nat->Prop} {many:Bool}
def zuo (ns:List Nd) (f:Fm) (y:Int) (ms:List Nd) (h:Fm):Prop:=∀(l bits:List Nat) (i j:Nat),V0 l bits i j->(fP (fun n=>zai l bits ms n i j) h=true↔zhy ns f y l bits i j)
theorem zrg {f:Fm} {v:Value} (y:Int) (h:LW p w ns F many) (hv:zaJ (XY p F) w v f) (hf:zbf (Ls ns) f) (hy:zac ns y) :
  Calls Tryz.prog 115 #[.pointer (some ⟨p.gw,0,none⟩),v,.int .i64 y] w (za9 p w ns F many fun ms h=>zuo ns f y ms h):=by
 obtain ⟨A,c,rfl⟩:=hv.at
 have hfw:=hf.few
 obtain ⟨w2,hw2⟩:∃w2,w2=(w.alloc (.cells #[.pointer (some ⟨p.gw,0,none⟩)] 63)).alloc (.cells #[.int .i64 y] 3):=⟨_,rfl⟩
 have hb:Below w.heap.size w w2:=by rw[hw2];exact (zqb).alloc (by simp) _
 have HG:=zqh (za8.of h hb)
 have HA3:Hid (At w2 w.heap.size 63 #[.pointer (some ⟨p.gw,0,none⟩)]):=zqh (by rw[hw2];exact (yL _ _ _ (by simp)).trans (At.new w _ _))
 have HA5:Hid (At w2 (w.heap.size+1) 3 #[.int .i64 y]):=zqh (by rw[hw2];have:=At.new (w.alloc (.cells #[.pointer (some ⟨p.gw,0,none⟩)] 63)) 3 #[.int .i64 y];rwa [qV] at this)
 have HN3:Hid (¬XB p F w.heap.size):=zqh (fun q=>by have:=h.low _ q;omega)
 have HN5:Hid (¬XB p F (w.heap.size+1)):=zqh (fun q=>by have:=h.low _ q;omega)
 have HK2:=zqh (hv.grow HG.out)
 have HFi:=zqh hf
 have HY:=zqh hy
 have HOne:Hid (∀(p':LP),p'.gw=p.gw->(∀G b,XB p' G b↔XB p G b)->∀{w3:World} {ns3:List Nd} {F3:Nat->Prop} {m3:Bool} (x:Int),za8 p' w2 ns F many w3 ns3 F3 m3->(zac ns3 x\/(x=-1/\m3=true))->Calls Tryz.prog 156 #[.int .i64 x,.pointer (some ⟨w.heap.size,0,none⟩),.pointer (some ⟨w.heap.size+1,0,none⟩)] w3 (za9 p' w3 ns3 F3 m3 fun ms f=>Den V0 0 (zmq ns3 y x) ms f)):=zqh (fun p' hp' hXB w3 ns3 F3 m3 x g hx=>by
  have hno:∀b,b<w2.heap.size->¬XB p F b->¬XB p' F3 b:=fun b hb hn q=>by
   rcases g.xlow b q with q | q
   ·exact hn ((hXB _ _).1 q)
   ·omega
  have k3:=(g.off.block _ HA3.out.lt (fun q=>HN3.out ((hXB _ _).1 q))).trans HA3.out
  have k5:=(g.off.block _ HA5.out.lt (fun q=>HN5.out ((hXB _ _).1 q))).trans HA5.out
  rw[<-hp'] at k3
  exact zos _ _ y x g.lw k3 k5 (hno _ HA3.out.lt HN3.out) (hno _ HA5.out.lt HN5.out) (g.isIn HY.out) hx)
 have HOf:Hid (∀q∈f,zlh p w2 ns F many 156 (fun x=>#[.int .i64 x,.pointer (some ⟨w.heap.size,0,none⟩),.pointer (some ⟨w.heap.size+1,0,none⟩)]) q V0 0 (zmq ns y)):=zqh (fun q hq y' w3 ns3 F3 m3 x hx g=>by
  have hxi:zac ns x:=HFi.out.inF q hq x hx
  refine (HOne.out {p with y:=y'} rfl (fun _ _=>Iff.rfl) x g (Or.inl (g.isIn hxi))).mono (fun e w q=>q.mono (fun more f _ _ hR=>?_))
  obtain ⟨m,rfl⟩:=g.more
  rw[zrF hxi HY.out] at hR
  exact hR)
 have HNo:=zqh (zvl HG.out.lw HK2.out hf)
 have HRe:=zqh (zsU (zsR w.heap.size (w.heap.size+1)) HG.out.lw HK2.out hf HOf.out)
 have HW2:=zqh hw2
 have HA3':=HA3
 rw[hw2] at HA3'
 rw[hw2] at HNo HRe
 have c3:=HA3'.out.cell 0
 clear h hv hf hy hb hw2 HA3'
 have HL2:Hid (∀i (hi:i<f.length),∃b off A2 c2,A=some ⟨b,off,none⟩/\w2.cell? ⟨b,off+i,none⟩=some (.slice A2 (za5 f i).length c2)):=zqh (fun i hi=>by
  obtain ⟨b,off,A2,c2,e,_,q,_⟩:=HK2.out.part i hi
  exact ⟨b,off,A2,c2,e,q⟩)
 rw[HW2.out] at HL2
 go_enter Tryz.func115,Tryz.ntmps115
 go_wp2_with fail
 go_loopw [13] (fun v wr=>∃(j:Nat),j<=f.length/\v=.int .i64 j/\wr=(w.alloc (.cells #[.pointer (some ⟨p.gw,0,none⟩)] 63)).alloc (.cells #[.int .i64 y] 3)/\Hid (∀q∈f.take j,q.length=1)) (fun v _=>f.length-(intOf v).toNat)
 case atStart=>exact ⟨0,qK _,rfl,rfl,zqh (fun q hq=>by simp at hq)⟩
 case round =>
  obtain ⟨j,hj,rfl,rfl,HT⟩:=hrel
  by_cases hlt:j<f.length
  ·have h1:(0:Int)<=(j:Int):=by omega
   have h2:(j:Int)<(f.length:Int):=by omega
   obtain ⟨b,off,A2,c2,rfl,q0⟩:=HL2.out j hlt
   obtain ⟨x,hx⟩:∃x,za5 f j=x:=⟨_,rfl⟩
   rw[hx] at q0
   have hxe:f[j]=x:=by rw[<-hx,zaz hlt]
   have HXe:Hid (f[j]=x):=zqh hxe
   clear hx hxe
   by_cases hx1:x.length=1
   ·have hz:(((x.length:Nat):Int)==1)=true:=by rw[hx1];rfl
    have hz':((x.length:Nat):Int)=1:=by rw[hx1];rfl
    have HX1:=zqh hx1
    clear hx1
    go_wp2_with fail
    refine ⟨⟨j+1,by omega,by go_num,(by trivial),zqh (fun q hq=>?_)⟩,by simp[intOf];omega⟩
    rw[qW hlt,HXe.out] at hq
    rcases List.mem_append.1 hq with hq | hq
    ·exact HT.out q hq
    ·rw[List.mem_singleton.1 hq];exact HX1.out
   ·have hz:(((x.length:Nat):Int)==1)=false:=(zab (by omega)).1
    clear hx1
    go_wp2_with fail
    refine HNo.out.mono ?_
    rintro e w5 ⟨z,ns5,F5,many5,rfl,hg5,hz5,hd5⟩
    rw[<-HW2.out] at hg5
    have HG5:=zqh (HG.out.trans hg5)
    have HD5:=zqh hd5
    have HG25:=zqh hg5
    have HC:=zqh (HOne.out p rfl (fun _ _=>Iff.rfl) z hg5 (hz5.elim (fun q=>Or.inr q) Or.inl))
    clear hg5 hz5 hd5
    go_wp2_with fail
    refine HC.out.mono ?_
    rintro e w3 ⟨v3,g,ns3,F3,many3,rfl,hg3,hk3,hi3,hd3⟩
    obtain ⟨A3,c3',hv3⟩:=hk3.at
    subst hv3
    have HG13:=zqh hg3
    have HG3:=zqh (HG5.out.trans hg3)
    have HK3:=zqh hk3
    have HI3:=zqh hi3
    have HD3:=zqh hd3
    clear hg3 hk3 hi3 hd3
    go_wp2_with fail
    go_ret
    refine za9.done HG3.out HK3.out HI3.out (fun hm=>?_)
    have hm5:many5=false:=by cases many5 with | false=>rfl | true=>have:=HG13.out.mono rfl;rw[hm] at this;cases this
    intro l bits i k hv
    obtain ⟨m5,rfl⟩:=HG5.out.more
    exact zlK (HD5.out hm5) (fun l bits=>zav l bits m5 HY.out) (HD3.out hm) l bits i k hv
  ·obtain rfl:j=f.length:=by omega
   go_wp2_with fail
   refine HRe.out.mono ?_
   rintro e w3 ⟨v3,g,ns3,F3,many3,rfl,hg3,hk3,hi3,hd3⟩
   rw[<-HW2.out] at hg3
   obtain ⟨A3,c3',hv3⟩:=hk3.at
   subst hv3
   have HG3:=zqh (HG.out.trans hg3)
   have HK3:=zqh hk3
   have HI3:=zqh hi3
   have HD3:=zqh hd3
   clear hg3 hk3 hi3 hd3
   go_wp2_with fail
   go_ret
   refine za9.done HG3.out HK3.out HI3.out (fun hm=>?_)
   intro l bits i k hv
   exact zm4 (fun q hq=>HT.out q (by rw[xL zqn];exact hq)) (HD3.out hm) l bits i k hv
end
end

section
open Go.RowKit
theorem zup (s:St) (hs:s.Ok) (b:Nat) (hb:b<256) (w:World) :
  Calls Tryz.prog 153 #[.agg #[.int .u64 s.w0,.int .u64 s.w1,.int .u64 s.w2,.int .u64 s.w3],.int .u8 b] w fun e w'=>e=.returned (.bool (s.has b))/\Below w.heap.size w w':=by
 obtain ⟨r,hr⟩:∃r:Nat,r=b % 64:=⟨_,rfl⟩
 have hm:(b:Int) % 64=r:=by omega
 have hq:b / 64=0\/b / 64=1\/b / 64=2\/b / 64=3:=by omega
 have hr':r<64:=by omega
 rcases hq with hq | hq | hq | hq
 ·have hd:(b:Int) / 64=0:=by omega
  have HR:=zqh (s.has_of b 0 r (by omega) hr')
  clear hr hq
  go_enter Tryz.func153,Tryz.ntmps153
  go_wp2
  go_ret
  exact ⟨zad ((zhT _ _ hs.o0).trans HR.out.symm),zqb⟩
 ·have hd:(b:Int) / 64=1:=by omega
  have HR:=zqh (s.has_of b 1 r (by omega) hr')
  clear hr hq
  go_enter Tryz.func153,Tryz.ntmps153
  go_wp2
  go_ret
  exact ⟨zad ((zhT _ _ hs.o1).trans HR.out.symm),zqb⟩
 ·have hd:(b:Int) / 64=2:=by omega
  have HR:=zqh (s.has_of b 2 r (by omega) hr')
  clear hr hq
  go_enter Tryz.func153,Tryz.ntmps153
  go_wp2
  go_ret
  exact ⟨zad ((zhT _ _ hs.o2).trans HR.out.symm),zqb⟩
 ·have hd:(b:Int) / 64=3:=by omega
  have HR:=zqh (s.has_of b 3 r (by omega) hr')
  clear hr hq
  go_enter Tryz.func153,Tryz.ntmps153
  go_wp2
  go_ret
  exact ⟨zad ((zhT _ _ hs.o3).trans HR.out.symm),zqb⟩
end

section
open Go.RowKit
def zuC (n:Nat):Prop:=∀(p:LP) {w:World} {ns:List Nd} {F:Nat->Prop} {many:Bool} (id:Int),zac ns id->id.toNat<=n->LW p w ns F many->Calls Tryz.prog 44 #[.pointer (some ⟨p.gw,0,none⟩),.int .i64 id] w (za9 p w ns F many fun ms f=>zbF ns id p.b p.bt ms f)
section
variable {p:LP} {w:World} {ns:List Nd} {F:Nat->Prop} {many:Bool}
theorem ziv {w2:World} {ns ns1:List Nd} {F1:Nat->Prop} {id r:Int} {many:Bool} (hf:zaA ns) (hin:zac ns id) (hk:kd ns id=2) (hb:(zaQ ns id.toNat).set.has p.b=true) (hr:r=-1\/(zac ns1 r/\kd ns1 r=1)) (h:LW p w2 ns1 F1 (many||decide (r<0))) :
  Calls Tryz.prog 27 #[.pointer (some ⟨p.gw,0,none⟩),.int .i64 r] w2 (za9 p w2 ns1 F1 (many||decide (r<0)) fun ms f=>zbF ns id p.b p.bt ms f):=by
 rcases hr with hr | ⟨ri,hc⟩
 ·subst hr
  exact (zfv (-1) (by unfold I64;omega) (Or.inr ⟨by simp,by unfold zac;omega⟩) h).mono (fun e w q=>za9.many (by simp) q)
 ·exact (zfv r (zcg h.few ri) (Or.inl ri) h).mono (fun e w q=>q.mono (fun more f _ _ hR=>zm2 hf hin hk hb h.fine ri hc hR))
theorem zmn (id:Int) (s:St) (h:LW p w ns F many) (hin:zac ns id) (hk:kd ns id=2) (hs:(zaQ ns id.toNat).set=s) :
  Calls Tryz.prog 111 #[.pointer (some ⟨p.gw,0,none⟩),.agg #[.int .u64 s.w0,.int .u64 s.w1,.int .u64 s.w2,.int .u64 s.w3]] w (za9 p w ns F many fun ms f=>zbF ns id p.b p.bt ms f):=by
 have hok:s.Ok:=by rw[<-hs];exact (zh2 h.fine hin).2.2.1
 obtain ⟨w2,hw2⟩:∃w2,w2=w.alloc (.cells #[.int .u64 s.w0,.int .u64 s.w1,.int .u64 s.w2,.int .u64 s.w3] 46):=⟨_,rfl⟩
 have hb2:Below w.heap.size w w2:=by rw[hw2];exact zqb
 have HG:=zqh (za8.of h hb2)
 have HGd:=zqh (HG.out.next (yF (qT _ w2)))
 have hbx:At w2 w.heap.size 46 #[.int .u64 s.w0,.int .u64 s.w1,.int .u64 s.w2,.int .u64 s.w3]:=by rw[hw2];exact At.new _ _ _
 have z0:=hbx.cell 0
 have z1:=hbx.cell 1
 have z2:=hbx.cell 2
 have z3:=hbx.cell 3
 have cb:=HG.out.lw.cells.2.1
 have HB:=zqh hbx
 have HHas:=zqh (zup s hok p.b h.b8.1 w2.drew)
 have HI:=zqh hin
 have HKd:=zqh hk
 have HS:=zqh hs
 have HFi:=zqh h.fine
 obtain ⟨gp,hgp⟩:=zar.ptr h.ar
 have HP:=zqh hgp
 have HW2:=zqh hw2
 have hNx:¬XB p F w.heap.size:=fun q=>by have:=h.low _ q;omega
 have HNx:=zqh hNx
 obtain ⟨hv,hhv⟩:∃hv,s.has p.b=hv:=⟨_,rfl⟩
 rw[hhv] at HHas
 rw[hw2] at z0 z1 z2 z3 cb HB HHas HGd
 have HV:=zqh hhv
 clear h hin hk hs hok hb2 hgp hNx hhv hbx hw2 HG
 go_enter Tryz.func111,Tryz.ntmps111
 go_wp2_with fail
 rw[<-HW2.out] at z0 z1 z2 z3 cb HB HHas HGd ⊢
 clear HW2
 go_region_held3 (fun w'=>w'.cell? ⟨p.gw,1,none⟩=some (.int .u8 p.b)/\w'.cell? ⟨w.heap.size,0,none⟩=some (.int .u64 s.w0)/\w'.cell? ⟨w.heap.size,1,none⟩=some (.int .u64 s.w1)/\w'.cell? ⟨w.heap.size,2,none⟩=some (.int .u64 s.w2)/\w'.cell? ⟨w.heap.size,3,none⟩=some (.int .u64 s.w3))
  (first | exact ⟨cb,z0,z1,z2,z3⟩ | exact ⟨db,y0,y1,y2,y3⟩ | fail)
  ((go_at_call 153
    (with_reducible refine HHas.out.mono ?_)
    rintro e w3 ⟨rfl,hb3⟩
    have HG3:=zqh (HGd.out.next hb3)
    have hB3:At w3 w.heap.size 46 #[.int .u64 s.w0,.int .u64 s.w1,.int .u64 s.w2,.int .u64 s.w3]:=At.step HB.out hb3 rfl
    have y0:=hB3.cell 0
    have y1:=hB3.cell 1
    have y2:=hB3.cell 2
    have y3:=hB3.cell 3
    have db:=HG3.out.lw.cells.2.1
    clear hb3 hB3))
 clear z0 z1 z2 z3 cb y0 y1 y2 y3 db
 cases hv
 ·go_wp2_with fail
  refine (zhd w3).mono ?_
  rintro e w4 ⟨A4,c4,rfl,hf4,hb4⟩
  have HEnd:=zqh (HG3.out.next hb4)
  have HKe:=zqh (zaZ.keeps HG3.out.lw hf4)
  clear hf4 hb4
  go_wp2_with fail
  go_ret
  exact za9.done HEnd.out HKe.out (zbf.nil _) (fun _=>zjS HFi.out HI.out HKd.out (by rw[HS.out,HV.out]))
 ·have c0:=HG3.out.lw.cells.1
  have HE:=zqh (ziX zd9 HG3.out.lw.ar)
  rw[HP.out] at c0 HE
  go_wp2_with fail
  refine HE.out.mono ?_
  rintro e w4 g
  rw[<-HP.out] at g
  obtain ⟨r,ns1,F1,rfl,g1,g2⟩:=Got.grow HG3.out.lw g
  have HG4:=zqh (HG3.out.trans g1)
  have HFt:=zqh (zmk g1.lw r)
  have HR:=zqh g2
  clear g g1 g2
  go_wp2_with fail
  refine HFt.out.mono ?_
  rintro e w5 ⟨rfl,g2⟩
  have HG5:=zqh (HG4.out.trans g2)
  have HC:=zqh (ziv HFi.out HI.out HKd.out (by rw[HS.out,HV.out]) HR.out g2.lw)
  clear g2
  go_wp2_with fail
  refine HC.out.mono ?_
  rintro e w6 ⟨v6,f,ns6,F6,many6,rfl,hg6,hk6,hi6,hd6⟩
  obtain ⟨A6,c6,hv6⟩:=hk6.at
  subst hv6
  have HG6:=zqh (HG5.out.trans hg6)
  have HK6:=zqh hk6
  have HI6:=zqh hi6
  have HD6:=zqh hd6
  clear hg6 hk6 hi6 hd6
  go_wp2_with fail
  go_ret
  exact za9.done HG6.out HK6.out HI6.out HD6.out
theorem zqy {n:Nat} (IH:∀k,k<n->zuC k) (id x y:Int) (h:LW p w ns F many) (hin:zac ns id) (hk:kd ns id=3) (hx:ka ns id=x) (hy:kb ns id=y) (hn:id.toNat<=n) :
  Calls Tryz.prog 112 #[.pointer (some ⟨p.gw,0,none⟩),.int .i64 x,.int .i64 y] w (za9 p w ns F many fun ms f=>zbF ns id p.b p.bt ms f):=by
 obtain ⟨⟨ia,la⟩,ib,lb⟩:=zaK h.fine hin (by omega)
 rw[hx] at ia la
 rw[hy] at ib lb
 have HX:=zqh (show zac ns x/\x.toNat<n from ⟨ia,by unfold zac at ia hin;omega⟩)
 have HY:=zqh (show zac ns y/\y.toNat<n from ⟨ib,by unfold zac at ib hin;omega⟩)
 have HLx:=zqh (IH _ HX.out.2 p x ia zqn h)
 have HIH:=zqh IH
 have HI:=zqh hin
 have HKd:=zqh (show kd ns id=3/\ka ns id=x/\kb ns id=y from ⟨hk,hx,hy⟩)
 have HFi:=zqh h.fine
 clear h hin hk hx hy hn ia la ib lb IH
 go_enter Tryz.func112,Tryz.ntmps112
 go_wp2_with fail
 refine HLx.out.mono ?_
 rintro e w1 ⟨v1,f,ns1,F1,many1,rfl,hg1,hk1,hi1,hd1⟩
 have HAh:=zqh (zrg y hg1.lw hk1 hi1 (hg1.isIn HY.out.1))
 obtain ⟨A1,c1,hv1⟩:=hk1.at
 subst hv1
 have HG1:=zqh hg1
 have HI1:=zqh hi1
 have HD1:=zqh hd1
 clear hg1 hk1 hi1 hd1 HLx
 go_wp2_with fail
 refine HAh.out.mono ?_
 rintro e w2 ⟨v2,a,ns2,F2,many2,rfl,hg2,hk2,hi2,hd2⟩
 obtain ⟨A2,c2,hv2⟩:=hk2.at
 subst hv2
 have HG12:=zqh hg2
 have HG2:=zqh (HG1.out.trans hg2)
 have HK2:=zqh hk2
 have HI2:=zqh hi2
 have HD2:=zqh hd2
 have HNu:=zqh (zvk HG2.out.lw x (HG2.out.isIn HX.out.1))
 clear hg2 hk2 hi2 hd2 HAh
 go_wp2_with fail
 refine HNu.out.mono ?_
 rintro e w3 ⟨rfl,hg3⟩
 have HG23:=zqh hg3
 have HG3:=zqh (HG2.out.trans hg3)
 have HK3:=zqh (HK2.out.grow hg3)
 have HNe:Hid (zan ns2 p.bt x=zan ns p.bt x):=zqh (by obtain ⟨m,rfl⟩:=HG2.out.more;exact zob HX.out.1 m)
 rw[HNe.out]
 obtain ⟨nl,hnl⟩:∃nl,zan ns p.bt x=nl:=⟨_,rfl⟩
 rw[hnl]
 have HNl:=zqh hnl
 clear hg3 hnl HNu
 have HAhd:Hid (∀(more:List Nd),many2=false->∀l bits i j,V0 l bits i j->(fP (fun n=>zai l bits (ns2++more) n i j) a=true↔zhy ns1 f (kb ns id) l bits i j)):=zqh (fun more hm l bits i j hv=>by
  rw[HKd.out.2.2,zlJ HI2.out.inF more]
  exact HD2.out hm l bits i j hv)
 have HYu:Hid (∀l bits,zai l bits ns1 (kb ns id)=zai l bits ns (kb ns id)):=zqh (fun l bits=>by
  obtain ⟨m,rfl⟩:=HG1.out.more
  rw[HKd.out.2.2]
  exact zav l bits m HY.out.1)
 have HXl:Hid (many1=false->zbF ns (ka ns id) p.b p.bt ns1 f):=zqh (by rw[HKd.out.2.1];exact HD1.out)
 cases nl
 ·go_wp2_with fail
  go_ret
  refine za9.done HG3.out HK3.out HI2.out (fun hm=>?_)
  have hm1:many1=false:=by cases many1 with | false=>rfl | true=>have:=HG12.out.mono rfl;rw[hm] at this;cases this
  refine zkx (a:=a) (g:=[]) HFi.out HI.out HKd.out.1 (HXl.out hm1) HYu.out (fun l bits i j hv=>?_) (fun q=>by rw[HKd.out.2.1,HNl.out] at q;cases q) (fun P=>by rw[HKd.out.2.1,HNl.out];simp)
  have:=HAhd.out [] hm l bits i j hv
  rwa [jA] at this
 ·have HLy:=zqh (HIH.out _ HY.out.2 p y (HG3.out.isIn HY.out.1) zqn HG3.out.lw)
  go_wp2_with fail
  refine HLy.out.mono ?_
  rintro e w4 ⟨v4,g,ns4,F4,many4,rfl,hg4,hk4,hi4,hd4⟩
  have HEi:=zqh (zkk hg4.lw (HK3.out.grow hg4) hk4 (hg4.fm HI2.out) hi4)
  obtain ⟨A4,c4,hv4⟩:=hk4.at
  subst hv4
  have HG34:=zqh hg4
  have HG4:=zqh (HG3.out.trans hg4)
  have HI4:=zqh hi4
  have HD4:=zqh hd4
  clear hg4 hk4 hi4 hd4 HLy
  go_wp2_with fail
  refine HEi.out.mono ?_
  rintro e w5 ⟨v5,x5,ns5,F5,many5,rfl,hg5,hk5,hi5,hd5⟩
  obtain ⟨A5,c5,hv5⟩:=hk5.at
  subst hv5
  have HG45:=zqh hg5
  have HG5:=zqh (HG4.out.trans hg5)
  have HK5:=zqh hk5
  have HI5:=zqh hi5
  have HD5:=zqh hd5
  clear hg5 hk5 hi5 hd5 HEi
  go_wp2_with fail
  go_ret
  refine za9.done HG5.out HK5.out HI5.out (fun hm=>?_)
  have hm4:many4=false:=by cases many4 with | false=>rfl | true=>have:=HG45.out.mono rfl;rw[hm] at this;cases this
  have hm2:many2=false:=by cases many2 with | false=>rfl | true=>have:=HG34.out.mono rfl;rw[hm4] at this;cases this
  have hm1:many1=false:=by cases many1 with | false=>rfl | true=>have:=HG12.out.mono rfl;rw[hm2] at this;cases this
  obtain ⟨m4,hm4e⟩:=HG34.out.more
  obtain ⟨m5,hm5e⟩:=HG45.out.more
  obtain ⟨m3,hm3e⟩:=HG3.out.more
  have hgR:zbF ns y p.b p.bt ns5 g:=by
   have h1:=HD4.out hm4
   rw[hm3e] at h1
   have h2:zbF ns y p.b p.bt ns4 g:=zbF.from h1 HY.out.1
   rw[hm5e]
   exact Den.up h2 HI4.out.inF m5
  refine zkx (a:=a) (g:=g) HFi.out HI.out HKd.out.1 (HXl.out hm1) HYu.out (fun l bits i j hv=>?_) (fun _=>by rw[HKd.out.2.2];exact hgR) (fun P=>by rw[HKd.out.2.1,HNl.out,jS];exact HD5.out hm P)
  have:=HAhd.out (m4++m5) hm2 l bits i j hv
  rwa [<-jQ,<-hm4e,<-hm5e] at this
end
end
end Go.Proofs.YtdmodhnhldbpnaaGreat
