/- Joined: GlX, BackF, GlCat. -/
import Derived.Test.YtdmodhnhldbpnaaGreatMan
import Derived.Test.YtdmodhnhldbpnaaGreatMao
import Derived.Test.YtdmodhnhldbpnaaGreatMap
import Derived.Test.YtdmodhnhldbpnaaGreatMam
import Derived.Test.YtdmodhnhldbpnaaGreatMak
import Derived.Test.YtdmodhnhldbpnaaGreatAid
/- norm over any arena: of numbers of which some may be -1. -/
set_option linter.unusedSectionVars false
set_option linter.unusedSimpArgs false
set_option linter.unusedVariables false
set_option maxHeartbeats 16000000
set_option maxRecDepth 100000
namespace Go.Proofs.YtdmodhnhldbpnaaGreat
section
open Go.RowKit Go.Shelf
def zij (ns:List Nd) (x:Int):Prop:=x=-1\/zac ns x
theorem zij.up {ns:List Nd} {x:Int} (h:zij ns x) (more:List Nd):zij (ns++more) x:=h.imp id (fun q=>q.up more)
theorem zij.i64 {ns:List Nd} {x:Int} (h:zij ns x) (hm:ns.length<=20000):I64 x:=by
 rcases h with rfl | h
 ·unfold I64;omega
 ·unfold zac at h;unfold I64;omega
section
variable {AA:World->Value->List Nd->(Nat->Prop)->Prop}
theorem znA (S:ArenaMid AA) (x y:Int) {w:World} {a:Value} {ns:List Nd} {F:Nat->Prop} (h:AA w a ns F) (hx:¬(zac ns x/\zac ns y)) :
  Calls Tryz.prog 123 #[a,.int .i64 x,.int .i64 y] w fun e w'=>e=.returned (.int .i64 (-1))/\Below w.heap.size w w':=by
 have HB:Hid (Below w.heap.size w (w.alloc (.cells #[.int .i64 x,.int .i64 y] 3))):=zqh (zqb)
 have hno:∃z∈[x,y],¬zac ns z:=by
  by_cases q:zac ns x
  ·exact ⟨y,by simp,fun z=>hx ⟨q,z⟩⟩
  ·exact ⟨x,by simp,q⟩
 have HT:Hid (Calls Tryz.prog 124 #[a,.slice (some ⟨w.heap.size,0,none⟩) 2 2] (w.alloc (.cells #[.int .i64 x,.int .i64 y] 3)) fun e w'=>e=.returned (.bool false)/\w'=w.alloc (.cells #[.int .i64 x,.int .i64 y] 3)):=zqh (zfc S [x,y] (S.next h HB.out) (zgl _ _ _ _) (by simp) hno)
 clear h hx hno
 go_enter Tryz.func123,Tryz.ntmps123
 go_wp2_with fail
 refine HT.out.mono ?_
 rintro e w1 ⟨rfl,rfl⟩
 go_wp2_with fail
 go_ret
 exact ⟨rfl,HB.out⟩
theorem gCatX (S:ArenaAny AA) (x y:Int) {w:World} {a:Value} {ns:List Nd} {F:Nat->Prop} (h:AA w a ns F) :
  Calls Tryz.prog 123 #[a,.int .i64 x,.int .i64 y] w (Got AA w a ns F fun ms r=>zac ns x/\zac ns y/\zhC ns x y ms r):=by
 by_cases q:zac ns x/\zac ns y
 ·exact (zvz S x y h q.1 q.2).mono (fun _ _ g=>g.mono (fun more r z _ _=>⟨q.1,q.2,z⟩) S.toArenaMid)
 ·refine (znA S.toArenaMid x y h q).mono ?_
  rintro e w' ⟨rfl,hb⟩
  exact Got.no S.toArenaMid h hb
theorem znB {ns:List Nd} {l:List Int} (q:¬∀x∈l,zac ns x):∃x∈l,¬zac ns x:=by
 refine Classical.byContradiction (fun h=>q (fun x hx=>Classical.byContradiction (fun z=>h ⟨x,hx,z⟩)))
theorem zvA (S:zaI AA) {w:World} {a v:Value} {ns:List Nd} {F:Nat->Prop} (l:List Int) (h:AA w a ns F) (hv:zb1 w v l) (hll:l.length<=20000) :
  Calls Tryz.prog 87 #[a,v] w (Got AA w a ns F fun ms r=>(∀x∈l,zac ns x)/\zda ns 4 l ms r):=by
 by_cases q:∀x∈l,zac ns x
 ·exact (zvy S l h hv q hll).mono (fun _ _ g=>g.mono (fun more r z _ _=>⟨q,z⟩) S.toArenaMid)
 ·refine (zqS S.toArenaMid l h hv (znB q) hll).mono ?_
  rintro e w' ⟨rfl,hb⟩
  exact Got.no S.toArenaMid h hb
theorem zu1 (S:zaI AA) {w:World} {a v:Value} {ns:List Nd} {F:Nat->Prop} (l:List Int) (h:AA w a ns F) (hv:zb1 w v l) (hll:l.length<=20000) :
  Calls Tryz.prog 88 #[a,v] w (Got AA w a ns F fun ms r=>(∀x∈l,zac ns x)/\zda ns 5 l ms r):=by
 by_cases q:∀x∈l,zac ns x
 ·exact (ztJ S l h hv q hll).mono (fun _ _ g=>g.mono (fun more r z _ _=>⟨q,z⟩) S.toArenaMid)
 ·refine (zrY S.toArenaMid l h hv (znB q) hll).mono ?_
  rintro e w' ⟨rfl,hb⟩
  exact Got.no S.toArenaMid h hb
theorem zeD {ns:List Nd}:¬zac ns (-1):=by unfold zac;omega
theorem zu2 (S:ArenaAny AA) {w:World} {a:Value} {ns:List Nd} {F:Nat->Prop} (x:Int) (h:AA w a ns F) (hx:zij ns x):Calls Tryz.prog 89 #[a,.int .i64 x] w (Got AA w a ns F fun ms r=>zac ns x/\zqH ms x r):=by
 rcases hx with rfl | hx
 ·refine (zqR S.toArenaMid h).mono ?_
  rintro e w' ⟨rfl,hb⟩
  exact Got.no S.toArenaMid h hb
 ·exact (zuW S x h hx).mono (fun _ _ g=>g.mono (fun more r z _ _=>⟨hx,z⟩) S.toArenaMid)
theorem zu3 (S:ArenaAny AA) {w:World} {a:Value} {ns:List Nd} {F:Nat->Prop} (x:Int) (h:AA w a ns F) (hx:zac ns x):Calls Tryz.prog 133 #[a,.int .i64 x] w (Got AA w a ns F fun ms r=>ziH ms x r):=by
 have hmx:=S.max h
 have hxI:I64 x:=by unfold zac at hx;unfold I64;omega
 have HX:=zqh hx
 have HA0:=zqh h
 have HB:Hid (Below w.heap.size w (w.alloc (.cells #[.int .i64 x] 3))):=zqh (zqb)
 have HA:=zqh (S.next h HB.out)
 have HT:Hid (Calls Tryz.prog 124 #[a,.slice (some ⟨w.heap.size,0,none⟩) 1 1] (w.alloc (.cells #[.int .i64 x] 3)) fun e w'=>e=.returned (.bool true)/\w'=w.alloc (.cells #[.int .i64 x] 3)):=zqh (zkD S.toArenaMid [x] HA.out (zkC _ _ _) (by simp) (fun y hy=>by rw[List.mem_singleton.1 hy];exact hx))
 have HK:=zqh (znk S.toArenaMid x HA.out hx)
 clear h hx
 go_enter Tryz.func133,Tryz.ntmps133
 go_wp2_with fail
 refine HT.out.mono ?_
 rintro e w1 ⟨rfl,rfl⟩
 go_wp2_with fail
 refine HK.out.mono ?_
 rintro e w1 ⟨rfl,hb1⟩
 have HB1:=zqh (HB.out.trans (hb1.mono HB.out.size))
 have HA1:=zqh (S.next HA.out hb1)
 clear hb1
 obtain ⟨k,hkd⟩:∃k,k=kd ns x:=⟨_,rfl⟩
 rw[<-hkd]
 have HKd:=zqh hkd
 clear hkd
 by_cases hk:k=0\/k=1
 ·have HP:=zqh (ziX S HA1.out)
  have HK01:=zqh hk
  have HGg:Hid (∀{e:Ending} {w2:World},Got AA w1 a ns F (fun ms r=>kd ms r=1) e w2->Got AA w a ns F (fun ms r=>ziH ms x r) e w2):=zqh (fun g=>(g.from HB1.out).mono (fun more r q _ hi=>⟨hi,fun _=>q,fun q7=>by
   rw[zbt HX.out,<-HKd.out] at q7;have:=HK01.out;omega,fun q0 q1 _=>by
   rw[zbt HX.out,<-HKd.out] at q0 q1;have:=HK01.out;omega⟩) S.toArenaMid)
  rcases hk with rfl | rfl
  ·go_wp2_with fail
   refine HP.out.mono ?_
   rintro e w2 g
   obtain ⟨r,_,_,rfl,_⟩:=id g
   have HG:=zqh (HGg.out g)
   clear g
   go_wp2_with fail
   go_ret
   exact HG.out
  ·go_wp2_with fail
   refine HP.out.mono ?_
   rintro e w2 g
   obtain ⟨r,_,_,rfl,_⟩:=id g
   have HG:=zqh (HGg.out g)
   clear g
   go_wp2_with fail
   go_ret
   exact HG.out
 ·have hk0:¬k=0:=fun q=>hk (Or.inl q)
  have hk1:¬k=1:=fun q=>hk (Or.inr q)
  have hk0b:=(zab hk0).1
  have hk1b:=(zab hk1).1
  by_cases hk7:k=7
  ·have HG:Hid (Got AA w a ns F (fun ms r=>ziH ms x r) (.returned (.int .i64 x)) w1):=zqh (Got.stay S.toArenaMid HA0.out HB1.out HX.out ⟨HX.out,fun q=>by rw[<-HKd.out] at q;omega,fun _=>rfl,fun _ _ q=>absurd (by rw[<-HKd.out];exact hk7) q⟩)
   subst hk7
   go_wp2_with fail
   go_ret
   exact HG.out
  ·have hk7b:=(zab hk7).1
   have HKn:=zqh hk
   have HK7:=zqh hk7
   have HP:=zqh (zqQ S ⟨7,zbn,x,0,false⟩ HA1.out (zcb _ _ _ _ (by unfold I64;omega) hxI (by unfold I64;omega)) (zhz (Or.inr rfl) HX.out))
   clear hk
   go_wp2_with fail
   refine HP.out.mono ?_
   rintro e w2 g
   obtain ⟨r,_,_,rfl,_⟩:=id g
   have HG:Hid (Got AA w a ns F (fun ms r=>ziH ms x r) (.returned (.int .i64 r)) w2):=zqh ((g.from HB1.out).mono (fun more r q _ hi=>⟨hi,fun q01=>by
    rw[zbt HX.out,<-HKd.out] at q01;exact absurd q01 HKn.out,fun q7=>by
    rw[zbt HX.out,<-HKd.out] at q7;exact absurd q7 HK7.out,fun _ _ _=>⟨by unfold kd;rw[q],by unfold ka;rw[q]⟩⟩) S.toArenaMid)
   clear g
   go_wp2_with fail
   go_ret
   exact HG.out
theorem zr4 (S:ArenaMid AA) {w:World} {a:Value} {ns:List Nd} {F:Nat->Prop} (x:Int) (h:AA w a ns F) (hx:¬zac ns x):Calls Tryz.prog 133 #[a,.int .i64 x] w fun e w'=>e=.returned (.int .i64 (-1))/\Below w.heap.size w w':=by
 have HB:Hid (Below w.heap.size w (w.alloc (.cells #[.int .i64 x] 3))):=zqh (zqb)
 have HT:Hid (Calls Tryz.prog 124 #[a,.slice (some ⟨w.heap.size,0,none⟩) 1 1] (w.alloc (.cells #[.int .i64 x] 3)) fun e w'=>e=.returned (.bool false)/\w'=w.alloc (.cells #[.int .i64 x] 3)):=zqh (zfc S [x] (S.next h HB.out) (zkC _ _ _) (by simp) ⟨x,by simp,hx⟩)
 clear h hx
 go_enter Tryz.func133,Tryz.ntmps133
 go_wp2_with fail
 refine HT.out.mono ?_
 rintro e w1 ⟨rfl,rfl⟩
 go_wp2_with fail
 go_ret
 exact ⟨rfl,HB.out⟩
theorem ztV (S:ArenaAny AA) {w:World} {a:Value} {ns:List Nd} {F:Nat->Prop} (x:Int) (h:AA w a ns F):Calls Tryz.prog 133 #[a,.int .i64 x] w (Got AA w a ns F fun ms r=>zac ns x/\ziH ms x r):=by
 by_cases hx:zac ns x
 ·exact (zu3 S x h hx).mono (fun _ _ g=>g.mono (fun more r z _ _=>⟨hx,z⟩) S.toArenaMid)
 ·refine (zr4 S.toArenaMid x h hx).mono ?_
  rintro e w' ⟨rfl,hb⟩
  exact Got.no S.toArenaMid h hb
theorem ztW (S:ArenaAny AA) {w:World} {a:Value} {ns:List Nd} {F:Nat->Prop} (k:Int) (neg:Bool) (h:AA w a ns F) (hk:0<=k/\k<4):Calls Tryz.prog 135 #[a,.int .i64 k,.bool neg] w (Got AA w a ns F fun ms r=>zaQ ms r.toNat=⟨8,zbn,k,0,neg⟩):=by
 have HP:=zqh (zqQ S ⟨8,zbn,k,0,neg⟩ h (zcb _ _ _ _ (by unfold I64;omega) (by unfold I64;omega) (by unfold I64;omega)) (by unfold Nd.right aIn;rw[if_neg (by simp),if_neg (by simp),if_neg (by simp),if_neg (by simp),if_pos rfl,Nd.eqb_self];dsimp only;rw[qD hk.1,qD hk.2];rfl))
 clear h
 go_enter Tryz.func135,Tryz.ntmps135
 go_wp2_with fail
 refine HP.out.mono ?_
 rintro e w1 g
 obtain ⟨r,_,_,rfl,_⟩:=id g
 have HG:=zqh g
 clear g
 go_wp2_with fail
 go_ret
 exact HG.out
end
end

section
open Go.RowKit Go.Shelf
attribute [local go_sem] Oper.semAt_some
def zat (zs:List Int) (i:Nat):Int:=zs[i]?.getD 0
def zfL (m:Nat):Nat->List (Fin m)
 | 0=>[]
 | k+1=>if h:m-1-k<m then zfL m k++[⟨m-1-k,h⟩] else zfL m k
theorem zeb {m k:Nat} (h:k<m):zfL m (k+1)=zfL m k++[⟨m-1-k,by omega⟩]:=by
 show (if h:m-1-k<m then zfL m k++[⟨m-1-k,h⟩] else zfL m k)=_
 rw[dif_pos (by omega)]
theorem zcW {m:Nat}:∀{k:Nat},k<=m->(zfL m k).length=k
 | 0,_=>rfl
 | k+1,h=>by rw[zeb (by omega),qF,zcW (by omega)];rfl
theorem zqZ {m i j:Nat} {h:i<m} (e:i=j):(⟨i,h⟩:Fin m)=⟨j,e▸h⟩:=by subst e;rfl
theorem back1_f (F:Fence) (n:Nat) (h1:F.fn 162) (hro:F.round=none) (hn:1<=n) (l Bs g cap:Nat) (zs:List Int) (hlen:zs.length<=1000000) (hz:∀j,j<zs.length->I64 (zat zs j)) (J Jx:List (Fin zs.length)->World->Prop)
  (hY:∀pre x W,J pre W->pre.length<zs.length->YieldAt F (n-1) Tryz.prog l #[.int .i64 (x.1:Int),.int .i64 (zat zs x.1)] W fun e W' =>
   (e=.returned (.bool true)/\J (pre++[x]) W'/\zbg Bs g W W')\/(e=.returned (.bool false)/\Jx (pre++[x]) W'))
  (W:World) (hBs:W.cell? ⟨Bs,0,none⟩=some (.slice (some ⟨g,0,none⟩) zs.length cap)) (hc:∀j,j<zs.length->W.cell? ⟨g,j,none⟩=some (.int .i64 (zat zs j))) (h0:J [] W) :
  CallsIn F n Tryz.prog 162 #[.func (.yield l) #[] #[],.pointer (some ⟨Bs,0,none⟩)] W fun e W'=>(∃v,e=.returned v) /\
   ((∃ys,ys=zfL zs.length zs.length/\J ys W')\/(∃pre,(∃k,k<=zs.length/\pre=zfL zs.length k)/\Jx pre W')):=by
 refine callsIn_of_wp Tryz.func162 rfl h1 ?_ hro
 simp only[Tryz.ntmps162,qO,jX,gD,Nat.reduceAdd,Nat.reduceSub,gJ,gI,List.push_toArray,gM,yW,List.cons_append]
 obtain ⟨p,hp⟩:∃p,p=zs.length:=⟨_,rfl⟩
 rw[<-hp] at hBs
 have hw:IntKind.i64.wrap ((p:Int)-1)=(p:Int)-1:=by
  rw[xX]
  exact xN _ (by omega)
 gi_wp2
 gi_loopw [3] (fun i wr=>∃q:Nat,q<=p/\i=.int .i64 ((q:Int)-1)/\J (zfL zs.length (p-q)) wr/\zbg Bs g W wr)
  (fun i _=>(intOf i+1).toNat)
 case atStart=>exact ⟨p,qL _,by go_num,by rw[kK];exact h0,zbg.refl _ _ _⟩
 case round =>
  obtain ⟨q,hq,rfl,hJs,hnx⟩:=hrel
  have hcx:∀j,j<zs.length->wr.cell? ⟨g,j,none⟩=some (.int .i64 (zat zs j)):=fun j hj=>(yA hnx.2).trans (hc j hj)
  have hbx:wr.cell? ⟨Bs,0,none⟩=some (.slice (some ⟨g,0,none⟩) p cap):=(yA hnx.1).trans hBs
  cases q with
  | zero =>
   rw[show ((0:Nat):Int)-1=-1 from rfl]
   gi_wp2
   go_end0
   exact ⟨⟨_,rfl⟩,.inl ⟨_,rfl,by rw[Nat.sub_zero,hp] at hJs;exact hJs⟩⟩
  | succ q =>
   rw[show ((q+1:Nat):Int)-1=(q:Int) by omega]
   have hq0:(0:Int)<=(q:Int):=by omega
   have hqp:(q:Int)<(p:Int):=by omega
   have hqw:IntKind.i64.wrap ((q:Int)-1)=(q:Int)-1:=by
    rw[xX]
    exact xN _ (by omega)
   obtain ⟨fn,tmps,assign,body,hy,hR⟩:=hY _ ⟨q,by omega⟩ wr hJs (by rw[zcW (by omega)];omega)
   dsimp only at hy
   have hcx':=hcx q (by omega)
   gi_wp2
   refine hR.mono ?_
   rintro e W3 (⟨rfl,hJ3,hk3⟩ | ⟨rfl,hJx3⟩)
   ·gi_wp2
    go_roundw
    case rel=>exact ⟨q,by omega,by go_num,by rw[show p-q=(p-(q+1))+1 by omega,zeb (by omega),zqZ (show zs.length-1-(p-(q+1))=q by omega)];exact hJ3,hnx.trans hk3⟩
    case measure=>simp[intOf]<;>omega
   ·gi_wp2
    refine yD (results_none rfl _ _ _) rfl ?_
    exact ⟨⟨_,rfl⟩,.inr ⟨_,⟨(p-(q+1))+1,by omega,by rw[zeb (by omega),zqZ (show zs.length-1-(p-(q+1))=q by omega)]⟩,hJx3⟩⟩
theorem back_stopsF (F:Fence) (n:Nat) (h1:F.fn 162) (hro:F.round=none) (hn:1<=n) (Bs g cap:Nat) (zs:List Int) (hlen:zs.length<=1000000) (hz:∀j,j<zs.length->I64 (zat zs j)) (w:World) (hB:Bs<w.heap.size) (hg:g<w.heap.size)
  (hBs:w.cell? ⟨Bs,0,none⟩=some (.slice (some ⟨g,0,none⟩) zs.length cap)) (hc:∀j,j<zs.length->w.cell? ⟨g,j,none⟩=some (.int .i64 (zat zs j))) :
  SeqStopsK F n Tryz.prog 162 #[.pointer (some ⟨Bs,0,none⟩)] (fun x:Fin zs.length=>#[Value.int .i64 (x.1:Int),Value.int .i64 (zat zs x.1)]) (zbg Bs g) (fun ys=>ys=zfL zs.length zs.length) (fun pre=>∃k,k<=zs.length/\pre=zfL zs.length k) zs.length w:=fun l J Jx W hW _ _ hY h0 =>
 back1_f F n h1 hro hn l Bs g cap zs hlen hz J Jx hY W ((hW.cell (p:=⟨Bs,0,none⟩) hB).trans hBs) (fun j hj=>(hW.cell (p:=⟨g,j,none⟩) hg).trans (hc j hj)) h0
end

section
open Go.RowKit Go.Shelf
variable {D:List Nat->List Nat->Prop} {u:Value}
attribute [local go_sem] Oper.semAt_some
section
variable {AA:World->Value->List Nd->(Nat->Prop)->Prop}
def BAt (w:World) (g:Nat) (a u:Value):Prop:=At w g 90 #[a,u]
theorem BAt.off {w w':World} {g:Nat} {a u:Value} {F:Nat->Prop} (h:BAt w g a u) (hF:¬F g) (ho:OffF F w w'):BAt w' g a u:=(ho.block g (At.lt h) hF).trans h
structure zr5 (AA AB:World->Value->List Nd->(Nat->Prop)->Prop) (a:Value) (w0:World):Prop where
 low:∀{w:World} {ns:List Nd} {F:Nat->Prop},AB w a ns F->∀b,F b->b<w.heap.size
 keep:∀{w w':World} {ns:List Nd} {F:Nat->Prop},AB w a ns F->(∀b,F b->w'.heap[b]?=w.heap[b]?)->AB w' a ns F
 fine:∀{w:World} {ns:List Nd} {F:Nat->Prop},AB w a ns F->zaA ns
 max:∀{w:World} {ns:List Nd} {F:Nat->Prop},AB w a ns F->ns.length<=20000
 up:∀{w:World} {ns:List Nd} {F:Nat->Prop},AB w a ns F->AA w a ns F
 far:∀{w:World} {ns:List Nd} {F:Nat->Prop} {b:Nat} {o:Obj},AB w a ns F->F b->w.heap[b]?=some o->(∀cs t p,o≠.cells cs t p)->b<w0.heap.size
 cat:∀(x y:Int) {w:World} {ns:List Nd} {F:Nat->Prop},AB w a ns F->Calls Tryz.prog 123 #[a,.int .i64 x,.int .i64 y] w (Got AB w a ns F fun ms r=>zac ns x/\zac ns y/\zhC ns x y ms r)
theorem zr5.next {AA AB:World->Value->List Nd->(Nat->Prop)->Prop} {a:Value} {w0 w w':World} {ns:List Nd} {F:Nat->Prop} (S:zr5 AA AB a w0) (h:AB w a ns F) (hb:Below w.heap.size w w'):AB w' a ns F:=S.keep h (fun b q=>hb.block b (S.low h b q))
theorem zu4 (S:zaI AA) {w:World} {a:Value} {ns:List Nd} {F:Nat->Prop} (h:AA w a ns F):∃AB,zr5 AA AB a w/\AB w a ns F:=by
 by_cases hn:0<ns.length
 ·obtain ⟨AB,m,SB,hAB,hm,hup,hmB⟩:=S.part h hn
  exact ⟨AB,⟨SB.low,SB.keep,SB.fine,SB.max,hup,fun h1 h2 h3 h4=>by have:=hmB h1 h2 h3 h4;omega,fun x y _ _ _ h1=>gCatX SB x y h1⟩,hAB⟩
 ·obtain rfl:ns=[]:=qU (by omega)
  refine ⟨fun w' a' ns' F'=>AA w' a' ns' F'/\ns'=[]/\∀b,F' b->b<w.heap.size,⟨fun h=>S.low h.1,fun h k=>⟨S.keep h.1 k,h.2⟩,fun h=>S.fine h.1,fun h=>S.max h.1,fun h=>h.1,fun h1 h2 _ _=>h1.2.2 _ h2,?_⟩,h,rfl,S.low h⟩
  rintro x y w1 ns1 F1 ⟨h1,rfl,h2⟩
  refine (znA S.toArenaMid x y h1 (fun q=>by have:=q.1;unfold zac at this;simp at this;omega)).mono ?_
  rintro e w' ⟨rfl,hb⟩
  exact ⟨-1,[],F1,rfl,⟨by rw[jA];exact S.next h1 hb,rfl,h2⟩,fun b q=>Or.inl q,OffF.of hb,Or.inl rfl⟩
structure GJ (AB:World->Value->List Nd->(Nat->Prop)->Prop) (w:World) (a:Value) (ns:List Nd) (F:Nat->Prop) (l zs:List Int) (B g:Nat) (pre:List (Fin zs.length)) (W:World) (more:List Nd) (F':Nat->Prop) (r:Int):Prop where
 ab:AB W a (ns++more) F'
 low:∀b,F' b->F b\/B<=b
 off:OffF F w W
 inn:zij (ns++more) r
 box:At W w.heap.size 123 #[.pointer (some ⟨g,0,none⟩)]
 id:At W (w.heap.size+1) 3 #[.int .i64 r]
 size:B<=W.heap.size
 right:pre=zfL zs.length pre.length->r=-1\/(zac (ns++more) r/\zhE (ns++more) (l.drop (zs.length-pre.length)) r)
theorem zr6 (S:zaI AA) {w:World} {a v:Value} {ns:List Nd} {F:Nat->Prop} {B0:Nat} (g:Nat) (l:List Int) (h:AA w a ns F) (hb:BAt w g a u) (hgF:¬F g) (hv:zas w B0 v l) (h0:0<l.length) (hvF:∀b,v.ownBlock=some b->¬F b) (hl:∀x∈l,zij ns x) (hlen:l.length<=20000) :
  Calls Tryz.prog 85 #[.pointer (some ⟨g,0,none⟩),v] w (Got AA w a ns F fun ms r=>zhE ms l r):=by
 obtain ⟨p,hp⟩:∃p,l.length=p+1:=⟨l.length-1,by omega⟩
 obtain ⟨gr,cap,ev,hcs⟩:=hv.form h0
 rw[hp] at ev
 subst ev
 have hx3:=hcs p (by rw[hp];omega)
 obtain ⟨x0,hx0⟩:∃x0,x0=l[p]'(by rw[hp];omega):=⟨_,rfl⟩
 rw[<-hx0] at hx3
 have HX0:=zqh hx0
 have HA:=zqh h
 have HV:=zqh hv
 have HCs:=zqh hcs
 have HvF:=zqh hvF
 have HL:=zqh hl
 have HLen:=zqh hlen
 have HP:=zqh hp
 have HBa:=zqh hb
 have HgF:=zqh hgF
 have hpb:p<=20000:=by omega
 have HGv:=zqh (hv.lt (c:=gr) rfl)
 have HGb:=zqh (At.lt hb)
 have hcp:(p:Int)+1<=(cap:Int):=by have:=hv.cap;omega
 have hcp0:(p:Int)<=(cap:Int):=by omega
 obtain ⟨gp,rfl⟩:=S.ptr h
 obtain ⟨w2,hw2⟩:∃w2,w2=((w.alloc (.cells #[.pointer (some ⟨g,0,none⟩)] 123)).alloc (.cells #[.int .i64 x0] 3)):=⟨_,rfl⟩
 obtain ⟨w3,hw3⟩:∃w3,w3=w2.alloc (.cells #[.slice (some ⟨gr,0,none⟩) p cap] 80):=⟨_,rfl⟩
 have hs2:w2.heap.size=w.heap.size+2:=by rw[hw2];simp
 have hs3:w3.heap.size=w.heap.size+3:=by rw[hw3];simp;omega
 have hB2:Below w.heap.size w w2:=by rw[hw2];exact (zqb).alloc (by simp) _
 have hB3:Below w.heap.size w w3:=by rw[hw3];exact hB2.alloc (by omega) _
 have HW2:=zqh hw2
 have HW3:=zqh hw3
 have HBk:Hid (CallsIn Fence.wide 5 Tryz.prog 122 #[.slice (some ⟨gr,0,none⟩) p cap] w2 fun e w'=>e=.returned (.func (.func 162) #[] #[.pointer (some ⟨w.heap.size+2,0,none⟩)])/\w'=w3):=zqh (by
  have:=znn Fence.wide 5 trivial rfl (.slice (some ⟨gr,0,none⟩) p cap) (some ⟨gr,0,none⟩) p cap rfl w2
  rw[hs2] at this
  rw[hw3];exact this)
 rw[hw2] at HBk
 have HS2:=zqh hs2
 have HS3:=zqh hs3
 have HB3:=zqh hB3
 have hpz:(0:Int)<=(p:Int):=by omega
 have hpn:(p:Int)<(p:Int)+1:=by omega
 have hpw:IntKind.i64.wrap ((p:Int)+1-1)=(p:Int):=by rw[xX,xN _ (by omega)];omega
 have hp0:¬(p:Int)+1=0:=by omega
 have hp0d:=(zab hp0).1
 have hx4:(w.alloc (.cells #[.pointer (some ⟨g,0,none⟩)] 123)).cell? ⟨gr,p,none⟩=some (.int .i64 x0):=(yA (a:=⟨gr,p,none⟩) (yL _ _ gr (by have:=HGv.out;omega))).trans hx3
 clear hx3 h hv hcs hvF hl hlen hb hgF hx0 h0 hw2 hw3 hs2 hs3 hB2 hB3
 refine (callsIn_wide (n:=6)).1 ?_
 refine callsIn_of_wp_marks Tryz.func85 rfl trivial ?_ rfl
 simp only[Tryz.ntmps85,qO,jX,gD,Nat.reduceAdd,Nat.reduceSub,gJ,gI,List.push_toArray,gM,yW,List.cons_append]
 gi_wp2_with fail
 refine ⟨trivial,?_⟩
 refine HBk.out.mono ?_
 rintro e w6 ⟨rfl,hw6⟩
 obtain rfl:w3=w6:=hw6.symm
 gi_wp2_with fail
 obtain ⟨zs,hzs⟩:∃zs,zs=l.take p:=⟨_,rfl⟩
 have hzl:zs.length=p:=by rw[hzs,jR,HP.out];omega
 have hzj:∀j (hj:j<p),zat zs j=l[j]'(by have:=HP.out;omega):=fun j hj=>by
  have e:zs[j]?=l[j]?:=by rw[hzs];exact jV hj
  unfold zat
  rw[e,qI (by have:=HP.out;omega)];rfl
 clear hzs
 subst hzl
 have hIn:∀j,j<zs.length->zij ns (zat zs j):=fun j hj=>by rw[hzj j hj];exact HL.out _ (qG _)
 have hx0i:zij ns x0:=by rw[HX0.out];exact HL.out _ (qG _)
 have hmx:=S.max HA.out
 have hzI:∀j,j<zs.length->I64 (zat zs j):=fun j hj=>(hIn j hj).i64 hmx
 obtain ⟨AB,SB,hAB⟩:=zu4 S HA.out
 have HFl:Hid (∀b,F b->b<w.heap.size):=zqh (SB.low hAB)
 have HGn:Hid (¬F gr):=zqh (HvF.out gr rfl)
 have hAB3:AB w3 (.pointer (some ⟨gp,0,none⟩)) ns F:=SB.keep hAB (fun b hb=>HB3.out.block b (HFl.out b hb))
 have hbox:At w3 w.heap.size 123 #[.pointer (some ⟨g,0,none⟩)]:=by rw[HW3.out,HW2.out];exact ((At.new _ _ _).alloc _).alloc _
 have hid:At w3 (w.heap.size+1) 3 #[.int .i64 x0]:=by
  have:=At.new (w.alloc (.cells #[.pointer (some ⟨g,0,none⟩)] 123)) 3 #[.int .i64 x0]
  rw[qV] at this
  rw[HW3.out,HW2.out];exact this.alloc _
 have hdr:l.drop zs.length=[x0]:=by
  rw[yU (by have:=HP.out;omega),<-HX0.out,List.drop_eq_nil_of_le (by have:=HP.out;omega)]
 have hJ0:GJ AB w (.pointer (some ⟨gp,0,none⟩)) ns F l zs w3.heap.size g [] w3 [] F x0 :=
  ⟨by rw[jA];exact hAB3,fun b q=>Or.inl q,OffF.of HB3.out,by rw[jA];exact hx0i,hbox,hid,qL _,fun _=>by
   rw[jA,show zs.length-([]:List (Fin zs.length)).length=zs.length from rfl,hdr]
   exact hx0i.imp id (fun q=>⟨q,zhE.one (SB.fine hAB) q⟩)⟩
 have hgs:gr<w3.heap.size:=by have:=HGv.out;have:=HS3.out;omega
 have hBs:w3.cell? ⟨w.heap.size+2,0,none⟩=some (.slice (some ⟨gr,0,none⟩) zs.length cap):=by
  have:=(At.new w2 80 #[.slice (some ⟨gr,0,none⟩) zs.length cap]).cell 0
  rw[HS2.out] at this
  rw[HW3.out];exact this
 have hcz:∀j,j<zs.length->w3.cell? ⟨gr,j,none⟩=some (.int .i64 (zat zs j)):=fun j hj=>by
  rw[hzj j hj]
  exact (yA (a:=⟨gr,j,none⟩) (HB3.out.block gr (by have:=HGv.out;omega))).trans (HCs.out j (by have:=HP.out;omega))
 have hI:OwnFrom w3.heap.size (fun (pre:List (Fin zs.length)) W=>∃more F' r,GJ AB w (.pointer (some ⟨gp,0,none⟩)) ns F l zs w3.heap.size g pre W more F' r):=fun pre X Y row hs hg hr=>by
  obtain ⟨more,F',r,j⟩:=hs
  have hrc:∀r,row=some r->∃o:Obj,X.heap[r]?=some o/\o.isCells=false:=fun r e=>(hr r e).2
  refine ⟨more,F',r,SB.keep j.ab (fun b hb=>hg.block b (SB.low j.ab b hb) (fun e=>?_)),j.low,j.off.grown hg (fun b e=>Or.inr ?_),j.inn,zgI j.box hg hrc,zgI j.id hg hrc,qH j.size hg.size,j.right⟩
  ·obtain ⟨h1,o,h2,h3⟩:=hr b e.symm
   have:=SB.far j.ab hb h2 (fun cs t p q=>by rw[q] at h3;cases h3)
   have h5:=HS3.out
   omega
  ·obtain ⟨h1,_⟩:=hr b e
   have h4:=HS3.out
   omega
 have HZj:=zqh hzj
 clear hzj
 refine wpIn_rangeFunc_ownG (α:=Fin zs.length) rfl (by omega) (gf:=162) (lb:=#[.pointer (some ⟨w.heap.size+2,0,none⟩)]) rfl trivial (enters_of Tryz.func162 (by kernel_rfl) rfl)
  (back_stopsF Fence.wide _ trivial rfl (by omega) (w.heap.size+2) gr cap zs (by omega) hzI w3 (by have:=HS3.out;omega) hgs hBs hcz) (fun h k=>h.trans k)
  (fun W lw o o' hl ho _ _=>⟨World.putObj_heap_other (by have:=HS3.out;omega),World.putObj_heap_other (by omega)⟩) (qT _ _) (fun _=>rfl)
  (fun pre W=>∃more F' r,GJ AB w (.pointer (some ⟨gp,0,none⟩)) ns F l zs w3.heap.size g pre W more F' r)
  (fun _ _ _=>False) hI (fun _ _ _ _ _ hs _ _=>hs) ⟨_,_,_,hJ0⟩
  (fun x=>{tmps:=#[.pointer (some ⟨g,0,none⟩),.slice (some ⟨gr,0,none⟩) (zs.length+1) cap,.pointer (some ⟨w.heap.size,0,none⟩),undef,.int .i64 0,.int .i64 zs.length,.pointer (some ⟨w.heap.size+1,0,none⟩),undef,.int .i64 (zat zs x.1),.slice (some ⟨gr,0,none⟩) (zs.length+1) cap,.int .i64 (zs.length+1),.bool false,undef,undef,undef,undef,undef,.slice (some ⟨gr,0,none⟩) (zs.length+1) cap,.int .i64 (zs.length+1),.int .i64 zs.length,.slice (some ⟨gr,0,none⟩) (zs.length+1) cap,.int .i64 zs.length,.pointer (some ⟨gr,zs.length,none⟩),.int .i64 x0,.slice (some ⟨gr,0,none⟩) (zs.length+1) cap,.int .i64 zs.length,.slice (some ⟨gr,0,none⟩) zs.length cap,.func (.func 162) #[] #[.pointer (some ⟨w.heap.size+2,0,none⟩)],.int .i64 (x.1:Int),.int .i64 (zat zs x.1),undef,undef,undef,undef,undef,undef,undef,undef],defers:=[]}) ?assign ?body ?done ?stop
 case assign =>
  intro l x W K hK
  gi_wp2
  exact hK
 case stop =>
  rintro D c pre W _ _ h _
  exact h.elim
 case done =>
  rintro D ys W hD rfl ⟨more,F',r,j⟩ hDD
  have c0:=j.id.cell 0
  have hst:=j.right (by rw[zcW zqn])
  rw[zcW zqn,kK,List.drop_zero] at hst
  have hput:Got AA w (.pointer (some ⟨gp,0,none⟩)) ns F (fun ms r=>zhE ms l r) (.returned (.int .i64 r)) (W.putObj D (.deferred none)):=by
   have hgr:=grownBy_putObj' W D (.deferred none)
   have hw3:w.heap.size<=w3.heap.size:=by have:=HS3.out;omega
   refine ⟨r,more,F',rfl,SB.up (SB.keep j.ab (fun b hb=>hgr.block b (SB.low j.ab b hb) (fun e=>?_))),fun b q=>?_,?_,hst⟩
   ·injection e with e
    have h4:=SB.far j.ab hb (by rw[e];exact hDD) (fun cs t p q=>by cases q)
    have h5:=HS3.out
    omega
   ·rcases j.low b q with q | q
    ·exact Or.inl q
    ·exact Or.inr (by omega)
   ·exact j.off.grown hgr (fun b e=>Or.inr (by injection e with e;omega))
  have HPu:=zqh hput
  clear hput hst
  gi_wp2
  refine ⟨by simp,.inl ⟨_,_,rfl,run_takeDeferred hDD,?_⟩⟩
  refine ⟨_,results_tmp rfl _ _ _,?_⟩
  exact HPu.out
 case body =>
  rintro lw pre ⟨q,hq⟩ W ⟨more,F',r,j⟩ hlen
  have c0:=j.box.cell 0
  have c1:=j.id.cell 0
  have f1:=j.id.free 0
  have hBW:BAt W g (.pointer (some ⟨gp,0,none⟩)) u:=HBa.out.off HgF.out j.off
  have cb:=hBW.cell 0
  have hxI:=hzI q hq
  have hxi:=hIn q hq
  have HCt:Hid (∀W',Below W.heap.size W W'->Calls Tryz.prog 123 #[.pointer (some ⟨gp,0,none⟩),.int .i64 (zat zs q),.int .i64 r] W' (Got AB W (.pointer (some ⟨gp,0,none⟩)) (ns++more) F' fun ms r2=>zac (ns++more) (zat zs q)/\zac (ns++more) r/\zhC (ns++more) (zat zs q) r ms r2)):=zqh (fun W' hb =>
   (SB.cat (zat zs q) r (SB.next j.ab hb)).mono (fun _ _ g=>g.from hb))
  have HnF:Hid (¬F' (w.heap.size+1)):=zqh (fun z=>by
   rcases j.low _ z with z | z
   ·have:=HFl.out _ z;omega
   ·have:=HS3.out;omega)
  have HFin:Hid (∀(W6:World) (r2:Int) (more2:List Nd) (F2:Nat->Prop),AB W6 (.pointer (some ⟨gp,0,none⟩)) ((ns++more)++more2) F2->(∀b,F2 b->F' b\/W.heap.size<=b)->OffF F' W W6->(r2=-1\/(zac ((ns++more)++more2) r2/\zac (ns++more) (zat zs q)/\zac (ns++more) r/\zhC (ns++more) (zat zs q) r ((ns++more)++more2) r2)) ->
    KeepsFrom w3.heap.size W (W6.setCell ⟨w.heap.size+1,0,none⟩ (.int .i64 r2))/\zbg (w.heap.size+2) gr W (W6.setCell ⟨w.heap.size+1,0,none⟩ (.int .i64 r2))/\GJ AB w (.pointer (some ⟨gp,0,none⟩)) ns F l zs w3.heap.size g (pre++[⟨q,hq⟩]) (W6.setCell ⟨w.heap.size+1,0,none⟩ (.int .i64 r2)) (more++more2) F2 r2):=zqh (fun W6 r2 more2 F2 k1 k2 k3 k4=>by
   have hs3:=HS3.out
   have hw6:w3.heap.size<=W6.heap.size:=qH j.size k3.size
   have hnew:∀b,w.heap.size<=b->¬F b:=fun b h1 z=>by have:=HFl.out b z;omega
   have hnF:∀b,b<w3.heap.size->¬F b->¬F' b:=fun b h1 h2 z=>by
    rcases j.low b z with z | z
    ·exact h2 z
    ·omega
   have hbnd:∀b,w.heap.size+1≠b->(W6.setCell ⟨w.heap.size+1,0,none⟩ (.int .i64 r2)).heap[b]?=W6.heap[b]?:=fun b hb=>jL W6 ⟨w.heap.size+1,0,none⟩ _ b (fun e=>hb e.symm)
   have hb6:∀b,b<W.heap.size->¬F' b->W6.heap[b]?=W.heap[b]?:=k3.block
   have hF2n:¬F2 (w.heap.size+1):=fun z=>by
    rcases k2 _ z with z | z
    ·exact hnF _ (by omega) (hnew _ (by omega)) z
    ·have:=j.size;omega
   have hlow:∀b,F' b->F b\/w.heap.size<=b:=fun b z=>by
    rcases j.low b z with z | z
    ·exact Or.inl z
    ·exact Or.inr (by omega)
   refine ⟨⟨by rw[jC];exact k3.size,fun b o hb ho hn=>?_⟩,⟨?_,?_⟩,SB.keep (by rw[<-jQ];exact k1) (fun b z=>hbnd b (fun e=>hF2n (by rw[e];exact z))),fun b z=>?_,?_,by rw[<-jQ];exact k4.imp id (fun q=>q.1),?_,?_,?_,fun hpre=>?_⟩
   ·have hblt:=(Array.getElem?_eq_some_iff.1 ho).1
    rw[hbnd b (by omega),hb6 b hblt (fun z=>?_)]
    ·exact ho
    ·have:=SB.far j.ab z ho (fun cs t p q=>by rw[q] at hn;cases hn)
     omega
   ·rw[hbnd _ (by omega)]
    exact hb6 _ (by have:=j.size;omega) (hnF _ (by omega) (hnew _ (by omega)))
   ·rw[hbnd _ (by have:=HGv.out;omega)]
    exact hb6 _ (by have:=j.size;omega) (hnF _ hgs HGn.out)
   ·rcases k2 b z with z | z
    ·exact j.low b z
    ·exact Or.inr (qH j.size z)
   ·have h1:OffF F w W6:=j.off.off k3 hlow
    refine ⟨h1.os,h1.tape,h1.output,by rw[jC];exact h1.size,fun b hb hn=>?_⟩
    rw[hbnd b (by omega)]
    exact h1.block b hb hn
   ·have h1:At W6 w.heap.size 123 #[.pointer (some ⟨g,0,none⟩)]:=(hb6 _ (At.lt j.box) (hnF _ (by omega) (hnew _ zqn))).trans j.box
    exact h1.other (show w.heap.size≠w.heap.size+1 by omega) _
   ·have h1:At W6 (w.heap.size+1) 3 #[.int .i64 r]:=(hb6 _ (At.lt j.id) (hnF _ (by omega) (hnew _ (by omega)))).trans j.id
    exact h1.set 0 _
   ·rw[jC];exact hw6
   ·rw[qF,yE,zeb (by omega)] at hpre
    obtain ⟨e1,e2⟩:=List.append_inj' hpre rfl
    injection e2 with e2 _
    have e3:q=zs.length-1-pre.length:=congrArg Fin.val e2
    have hql:q<l.length:=by have:=HP.out;omega
    have e4:l.drop q=zat zs q::l.drop (zs.length-pre.length):=by
     rw[yU hql,HZj.out q hq,show q+1=zs.length-pre.length by omega]
    rcases k4 with k4 | ⟨k4,kx,kr,kc⟩
    ·exact Or.inl k4
    rcases j.right e1 with h1 | ⟨_,h1⟩
    ·exact absurd (h1▸kr) zeD
    rw[qF,yE,show zs.length-(pre.length+1)=q by omega,e4,<-jQ]
    exact Or.inr ⟨k4,h1.cons kx kc⟩)
  have hfn:Fence.wide.fn 123:=trivial
  have hmxo:Tryz.prog.follows .mixedOrders=true:=by kernel_rfl
  have HJ:=zqh j
  clear j hI hJ0
  gi_wp2
  gi_region_with_o (gi_at_call 123;refine (CallsIn.inRound lw (callsIn_wide.2 (HCt.out _ (qT _ _).drew))).mono ?_;(rintro e W6 ⟨r2,more2,F2,rfl,k1,k2,k3,k4⟩);have hid6:At W6 (w.heap.size+1) 3 #[.int .i64 r]:=(k3.block _ (At.lt HJ.out.id) HnF.out).trans HJ.out.id;have c6:=At.cell hid6 0;have f6:=At.free hid6 0)
  all_goals
   have hf:=HFin.out _ _ _ _ k1 k2 k3 k4
   gi_wp2
   exact ⟨hf.1,hf.2.1,_,_,_,hf.2.2⟩
theorem ztX (S:zaI AA) {w:World} {a:Value} {ns:List Nd} {F:Nat->Prop} (g:Nat) (A:Option Addr) (c:Nat) (h:AA w a ns F) (hb:BAt w g a u) :
  Calls Tryz.prog 85 #[.pointer (some ⟨g,0,none⟩),.slice A 0 c] w (Got AA w a ns F fun ms r=>zhE ms [] r):=by
 have hB:Below w.heap.size w (w.alloc (.cells #[.pointer (some ⟨g,0,none⟩)] 123)):=zqb
 have HN:=zqh ((ziX S.toArenaAny (S.next h hB)).mono (fun _ _ g=>(g.from hB).mono (R':=fun ms r=>zhE ms [] r) (fun more r q hf hi=>zhE.nil hf hi q) S.toArenaMid))
 have cb:(w.alloc (.cells #[.pointer (some ⟨g,0,none⟩)] 123)).cell? ⟨g,0,none⟩=some a:=(At.alloc hb _).cell 0
 obtain ⟨gp,rfl⟩:=S.ptr h
 clear h hb
 go_enter Tryz.func85,Tryz.ntmps85
 go_wp2_with fail
 refine HN.out.mono ?_
 rintro e w2 g
 obtain ⟨r,_,_,rfl,_⟩:=id g
 have HG:=zqh g
 clear g
 go_wp2_with fail
 go_ret
 exact HG.out
end
end
end Go.Proofs.YtdmodhnhldbpnaaGreat
