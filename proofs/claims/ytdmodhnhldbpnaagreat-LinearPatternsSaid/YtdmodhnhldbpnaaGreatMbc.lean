/- Joined: FoC, FoE, FoM. -/
import Derived.Test.YtdmodhnhldbpnaaGreatMbb
import Derived.Test.YtdmodhnhldbpnaaGreatMaf
import Derived.Laws.AppendOwn
import Derived.Laws.OwnMore
import Derived.Maps.AppendAt
import Derived.Lib.AppendZeros
import Derived.Lib.SlicesCompact
import Derived.Test.YtdmodhnhldbpnaaGreatAid
/- package formula: rows of parts. -/
set_option linter.unusedSimpArgs false
set_option linter.unusedVariables false
set_option maxHeartbeats 4000000
set_option maxRecDepth 100000
namespace Go.Proofs.YtdmodhnhldbpnaaGreat
section
open Go.RowKit
structure Pt where
 v:Value
 m:Nat
 l:List Int
def zin (x:Pt):List Value:=[x.v,.int .u64 x.m]
def Pt.zero:Pt:=⟨.slice none 0 0,0,[]⟩
instance:Inhabited Pt:=⟨Pt.zero⟩
def zbB (w:World) (R:Nat->Prop) (x:Pt):Prop :=
 (∃A c,x.v=.slice A x.l.length c/\x.l.length<=c/\c<=9223372036854775807/\(0<x.l.length->∃b off,A=some ⟨b,off,none⟩/\¬R b/\b<w.heap.size/\∀j,j<x.l.length->w.cell? ⟨b,off+j,none⟩=some (.int .i64 (zbi x.l j)))) /\
 (Up x.l/\∀n∈x.l,0<=n/\n<=9223372036854775807)/\zcX x.m x.l
section
variable {w w':World} {R R':Nat->Prop} {x:Pt}
theorem zbB.ints (h:zbB w R x):zak w x.v x.l:=by
 obtain ⟨⟨A,c,h1,h2,h3,h4⟩,⟨_,h5⟩,_⟩:=h
 refine ⟨A,c,h1,h2,h3,fun n hn=>by have:=h5 n hn;unfold IsI;omega,fun h0=>?_⟩
 obtain ⟨b,off,e,_,r⟩:=h4 h0
 exact ⟨b,off,e,r⟩
theorem zbB.kept (h:zbB w R x) (hs:w.heap.size<=w'.heap.size) (hk:∀b,¬R b->b<w.heap.size->w'.heap[b]?=w.heap[b]?) (hR:∀b,b<w.heap.size->R' b->R b):zbB w' R' x:=by
 obtain ⟨⟨A,c,h1,h2,h3,h4⟩,h5,h6⟩:=h
 refine ⟨⟨A,c,h1,h2,h3,fun h0=>?_⟩,h5,h6⟩
 obtain ⟨b,off,e,hb,hlt,hc⟩:=h4 h0
 refine ⟨b,off,e,fun h=>hb (hR b hlt h),qM hlt hs,fun j hj=>?_⟩
 have:=hc j hj
 unfold World.cell? at this ⊢
 rw[hk b hb hlt];exact this
theorem zbB.grown {row:Option Nat} (h:zbB w R x) (hg:w.grownBy w' row) (hr:∀k,row=some k->R k):zbB w' R x :=
 h.kept hg.size (fun b hb hlt=>hg.block b hlt (fun e=>hb (hr b e.symm))) (fun _ _ h=>h)
theorem zbB.below (h:zbB w R x) (hb:Below w.heap.size w w'):zbB w' R x:=h.kept hb.size (fun b _ hlt=>hb.block b hlt) (fun _ _ h=>h)
theorem zbB.forget (h:zbB w R x) (hR:∀b,b<w.heap.size->R' b->R b):zbB w R' x:=h.kept zqn (fun _ _ _=>rfl) hR
theorem zbB.zero (w:World) (R:Nat->Prop):zbB w R Pt.zero :=
 ⟨⟨none,0,rfl,qL _,by omega,fun h=>absurd h (jM _)⟩,⟨List.Pairwise.nil,fun n hn=>by cases hn⟩,zla⟩
end
def RowF (w:World) (g cap:Nat) (f:Nat->Option Pt):Prop :=
 ∃cs,At w g 171 cs/\cs.size=cap*2/\∀j x,f j=some x->j<cap/\cs[j*2]?=some x.v/\cs[j*2+1]?=some (.int .u64 x.m)
section
variable {w w':World} {g cap:Nat} {f f':Nat->Option Pt}
theorem RowF.cell (h:RowF w g cap f) {j:Nat} {x:Pt} (e:f j=some x):w.cell? ⟨g,j*2,none⟩=some x.v/\w.cell? ⟨g,j*2+1,none⟩=some (.int .u64 x.m):=by
 obtain ⟨cs,hA,hs,hc⟩:=h
 obtain ⟨_,h0,h1⟩:=hc j x e
 exact ⟨(hA.cell _).trans h0,(hA.cell _).trans h1⟩
theorem RowF.there (h:RowF w g cap f) {j:Nat} (hj:j<cap):∃u0 u1,w.cell? ⟨g,j*2,none⟩=some u0/\w.cell? ⟨g,j*2+1,none⟩=some u1:=by
 obtain ⟨cs,hA,hs,hc⟩:=h
 exact ⟨_,_,(hA.cell _).trans (jZ (by omega)),(hA.cell _).trans (jZ (by omega))⟩
theorem RowF.free (h:RowF w g cap f) (i:Nat):w.frozen? ⟨g,i,none⟩=false:=by obtain ⟨cs,hA,_⟩:=h;exact hA.free i
theorem RowF.lt (h:RowF w g cap f):g<w.heap.size:=by obtain ⟨cs,hA,_⟩:=h;exact hA.lt
theorem RowF.kept (h:RowF w g cap f) (e:w'.heap[g]?=w.heap[g]?):RowF w' g cap f:=by obtain ⟨cs,hA,hr⟩:=h;exact ⟨cs,e.trans hA,hr⟩
theorem RowF.below {B:Nat} (h:RowF w g cap f) (hb:Below B w w') (hg:g<B):RowF w' g cap f:=h.kept (hb.block g hg)
theorem RowF.next (h:RowF w g cap f) (hb:Below w.heap.size w w'):RowF w' g cap f:=h.below hb h.lt
theorem RowF.weaken (h:RowF w g cap f) (e:∀j x,f' j=some x->f j=some x):RowF w g cap f':=by obtain ⟨cs,hA,hs,hc⟩:=h;exact ⟨cs,hA,hs,fun j x hx=>hc j x (e j x hx)⟩
theorem RowF.put (h:RowF w g cap f) {i:Nat} (hi:i<cap) (x:Pt) :
  RowF ((w.setCell ⟨g,i*2,none⟩ x.v).setCell ⟨g,i*2+1,none⟩ (.int .u64 x.m)) g cap (fun j=>if j=i then some x else f j):=by
 obtain ⟨cs,hA,hs,hc⟩:=h
 refine ⟨_,(hA.set _ _).set _ _,by simp[hs],fun j y hy=>?_⟩
 dsimp only at hy
 by_cases e:j=i
 ·subst e
  rw[if_pos rfl] at hy
  injection hy with hy
  subst hy
  refine ⟨hi,?_,?_⟩
  ·rw[jT (by omega),xD (by omega)]
  ·rw[xD (by simp;omega)]
 ·rw[if_neg e] at hy
  obtain ⟨a,b,c⟩:=hc j y hy
  refine ⟨a,?_,?_⟩
  ·rw[jT (by omega),jT (by omega)];exact b
  ·rw[jT (by omega),jT (by omega)];exact c
end
theorem zfk (xs:List Pt):(xs.flatMap zin).length=xs.length*2:=by
 induction xs with
 | nil=>rfl
 | cons x r ih=>rw[List.flatMap_cons,qF,ih];simp[zin];omega
theorem zgn:∀(xs:List Pt) (j:Nat) (h:j<xs.length),(xs.flatMap zin)[j*2]?=some xs[j].v/\(xs.flatMap zin)[j*2+1]?=some (.int .u64 xs[j].m)
 | x::r,0,_=>⟨rfl,rfl⟩
 | x::r,j+1,h=>by
  have ih:=zgn r j (by simpa using h)
  rw[List.flatMap_cons]
  rw[show (j+1)*2=2+j*2 by omega,show 2+j*2+1=2+(j*2+1) by omega]
  rw[yK (by simp[zin]),yK (by simp[zin])]
  simp only[zin,jX,gD,yH,Nat.reduceAdd,Nat.add_sub_cancel_left,List.getElem_cons_succ]
  exact ih
def Pts (w:World) (base:Nat) (v:Value) (xs:List Pt):Prop:=w.ownsRow base 171 2 v xs.length (xs.flatMap zin)
theorem RowF.own {w:World} {g cap base:Nat} {f:Nat->Option Pt} (h:RowF w g cap f) (xs:List Pt) (hf:∀j (h:j<xs.length),f j=some xs[j]) (hn:xs.length<=cap) (hc:cap<=maxLen) (hb:base<=g):Pts w base (.slice (some ⟨g,0,none⟩) xs.length cap) xs:=by
 obtain ⟨cs,hA,hs,hr⟩:=h
 refine ⟨zfk xs,.inr ⟨g,cap,cs,rfl,hb,hA,hn,hc,hs,?_⟩⟩
 apply List.ext_getElem?
 intro i
 by_cases hi:i<xs.length*2
 ·rw[jV hi,gA]
  have hj:i / 2<xs.length:=by omega
  obtain ⟨_,a,b⟩:=hr _ _ (hf (i / 2) hj)
  obtain ⟨a',b'⟩:=zgn xs (i / 2) hj
  obtain ⟨k,hk⟩:∃k,i / 2=k:=⟨_,rfl⟩
  rcases Nat.mod_two_eq_zero_or_one i with e | e
  ·obtain rfl:i=k*2:=by omega
   simp only[hk] at a a'
   exact a.trans a'.symm
  ·obtain rfl:i=k*2+1:=by omega
   simp only[hk] at b b'
   exact b.trans b'.symm
 ·rw[List.getElem?_eq_none (by rw[jR];omega),List.getElem?_eq_none (by rw[zfk];omega)]
theorem Pts.row {w:World} {base:Nat} {v:Value} {xs:List Pt} (h:Pts w base v xs) :
  (v=.slice none 0 0/\xs=[])\/∃g cap,v=.slice (some ⟨g,0,none⟩) xs.length cap/\xs.length<=cap/\cap<=maxLen/\base<=g/\RowF w g cap (fun j=>xs[j]?):=by
 obtain ⟨hl,⟨rfl,h0⟩ | ⟨g,cap,cs,rfl,hb,hA,hn,hc,hs,ht⟩⟩:=h
 ·exact .inl ⟨rfl,qU h0⟩
 ·refine .inr ⟨g,cap,rfl,hn,hc,hb,cs,hA,hs,fun j x hx=>?_⟩
  obtain ⟨hj,rfl⟩:=List.getElem?_eq_some_iff.1 hx
  obtain ⟨a,b⟩:=zgn xs j hj
  refine ⟨by omega,?_,?_⟩
  ·rw[<-a,<-ht,jV (by omega),gA]
  ·rw[<-b,<-ht,jV (by omega),gA]
theorem Pts.nil (w:World) (base:Nat):Pts w base (.slice none 0 0) []:=kD w base _ 2
theorem Pts.low {w:World} {base base':Nat} {v:Value} {xs:List Pt} (h:Pts w base v xs) (hb:base'<=base):Pts w base' v xs:=by
 obtain ⟨hl,h | ⟨g,cap,cs,e,hb',r⟩⟩:=h
 ·exact ⟨hl,.inl h⟩
 ·exact ⟨hl,.inr ⟨g,cap,cs,e,qH hb hb',r⟩⟩
theorem Pts.next {w w':World} {base:Nat} {v:Value} {xs:List Pt} (h:Pts w base v xs) (hb:Below w.heap.size w w'):Pts w' base v xs:=by
 obtain ⟨hl,h | ⟨g,cap,cs,e,hb',hA,r⟩⟩:=h
 ·exact ⟨hl,.inl h⟩
 ·exact ⟨hl,.inr ⟨g,cap,cs,e,hb',(hb.block g (At.lt (t:=171) (cs:=cs) hA)).trans hA,r⟩⟩
def zdC (w:World) (v:Value) (xs:List Pt):Prop :=
 (∃A c,v=.slice A xs.length c/\xs.length<=c/\c<=9223372036854775807/\(0<xs.length->∃g cap,A=some ⟨g,0,none⟩/\xs.length<=cap/\RowF w g cap (fun j=>xs[j]?)))/\∀x∈xs,zbB w (fun _=>False) x
section
variable {w w':World} {v:Value} {xs:List Pt}
theorem zdC.len {A:Option Addr} {n c:Nat} (h:zdC w (.slice A n c) xs):n=xs.length:=by obtain ⟨⟨A',c',h1,_⟩,_⟩:=h;injection h1
theorem zdC.max {A:Option Addr} {n c:Nat} (h:zdC w (.slice A n c) xs):xs.length<=9223372036854775807/\xs.length<=c/\c<=9223372036854775807:=by obtain ⟨⟨A',c',h1,h2,h3,_⟩,_⟩:=h;injection h1 with _ _ e;subst e;omega
theorem zdC.next (h:zdC w v xs) (hb:Below w.heap.size w w'):zdC w' v xs:=by
 obtain ⟨⟨A,c,h1,h2,h3,h4⟩,h5⟩:=h
 refine ⟨⟨A,c,h1,h2,h3,fun h0=>?_⟩,fun x hx=>(h5 x hx).below hb⟩
 obtain ⟨g,cap,e,hc,hr⟩:=h4 h0
 exact ⟨g,cap,e,hc,hr.next hb⟩
theorem zdC.at {A:Option Addr} {n c:Nat} (h:zdC w (.slice A n c) xs) (j:Nat) (hj:j<xs.length) :
  ∃g x,A=some ⟨g,0,none⟩/\g<w.heap.size/\xs[j]?=some x/\w.cell? ⟨g,j*2,none⟩=some x.v/\w.cell? ⟨g,j*2+1,none⟩=some (.int .u64 x.m)/\zbB w (fun _=>False) x:=by
 obtain ⟨⟨A',c',h1,h2,h3,h4⟩,h5⟩:=h
 injection h1 with e1 _ _
 subst e1
 obtain ⟨g,cap,e,hc,hr⟩:=h4 (by omega)
 have hx:xs[j]?=some xs[j]:=qI hj
 obtain ⟨a,b⟩:=hr.cell (j:=j) hx
 exact ⟨g,xs[j],e,hr.lt,hx,a,b,h5 _ (qG hj)⟩
theorem Pts.read {base:Nat} (h:Pts w base v xs) (hp:∀x∈xs,zbB w (fun _=>False) x):zdC w v xs:=by
 refine ⟨?_,hp⟩
 rcases h.row with ⟨rfl,rfl⟩ | ⟨g,cap,rfl,hn,hc,_,hr⟩
 ·exact ⟨none,0,rfl,qL _,by omega,fun h=>absurd h (jM _)⟩
 ·exact ⟨_,cap,rfl,hn,by unfold maxLen at hc;omega,fun _=>⟨g,cap,rfl,hn,hr⟩⟩
end
def zaV:Array Value:=#[.slice none 0 0,.int .u64 0]
theorem zdR:(Tryz.prog.info? 171).map (fun i=>(i.zero,i.size,i.bytes))=some (some (.agg zaV),2,32):=by kernel_rfl
theorem zfQ (n:Nat) (hn:n<=4000000) (w:World):(Instr.makeSlice 138 (.int .i64 (n:Int)) (.int .i64 (n:Int))).run Tryz.prog w=.ok (.slice (some ⟨w.heap.size,0,none⟩) n n) (w.alloc (.cells (madeCells zaV (n*2)) 171)):=by
 obtain ⟨i,hi,h0,h1,h2⟩:=yZ zdR
 have h:=run_make (P:=Tryz.prog) w 138 171 i _ Tryz.underlying138 hi h0 .i64 .i64 (n:Int) (n:Int) (by omega) (gE _) (by rw[h2];omega) (by omega)
 rw[h1] at h
 simpa [Value.cells] using h
theorem zfR (w:World) (n:Nat):RowF (w.alloc (.cells (madeCells zaV (n*2)) 171)) w.heap.size n (fun _=>none) :=
 ⟨_,At.new _ _ _,by simp[madeCells],fun j x hx=>by cases hx⟩
theorem zkf {ps:List Pt} {i:Nat} (h:ps.length=i) (x:Pt):∀j y,(ps++[x])[j]?=some y->(if j=i then some x else ps[j]?)=some y:=by
 intro j y hy
 subst h
 by_cases e:j=ps.length
 ·subst e;rw[if_pos rfl];simpa using hy
 ·rw[if_neg e]
  have hj:j<ps.length:=by
   have:=(List.getElem?_eq_some_iff.1 hy).1
   simp at this;omega
  rwa [jP hj] at hy
theorem zak.pt {w:World} {A:Option Addr} {c:Nat} {l:List Int} (h:zak w (.slice A l.length c) l) (hu:Up l) (h0:∀x∈l,0<=x) {m:Nat} (hm:zcX m l) {R:Nat->Prop} (hR:∀b,b<w.heap.size->¬R b):zbB w R ⟨.slice A l.length c,m,l⟩:=by
 obtain ⟨A',c',e,h2,h3,h4,h5⟩:=h
 injection e with e1 _ e3
 subst e1 e3
 refine ⟨⟨A,c,rfl,h2,h3,fun h0=>?_⟩,⟨hu,fun n hn=>⟨h0 n hn,(h4 n hn).2⟩⟩,hm⟩
 obtain ⟨b,off,e,hb,r⟩:=h5 h0
 exact ⟨b,off,e,hR b hb,hb,r⟩
theorem zdS (w:World) (g o o':Nat) (v v':Value):w.grownBy ((w.setCell ⟨g,o,none⟩ v).setCell ⟨g,o',none⟩ v') (some g) :=
 ⟨rfl,rfl,rfl,by simp[World.setCell],fun k hk hne=>by
  have h:k≠g:=fun e=>hne (by rw[e])
  exact (jL _ ⟨g,o',none⟩ v' k h).trans (jL _ ⟨g,o,none⟩ v k h)⟩
theorem zfl (f:Fm) (A:Option Addr) (n c:Nat) (w:World) (h:zcF w (.slice A n c) f) (hn:f.length<=4000000) (hu:∀p∈f,Up p/\∀x∈p,0<=x) :
  Calls Tryz.prog 101 #[.slice A n c] w fun e w'=>∃v ps,e=.returned v/\Pts w' w.heap.size v ps/\(∀x∈ps,zbB w' (fun b=>w.heap.size<=b) x)/\ps.map (·.l)=f/\Below w.heap.size w w':=by
 have HI:=zqh h
 have hm:=h.max
 obtain rfl:=h.len
 have HU:=zqh hu
 have hmk:=zfQ f.length hn
 have hR0:=zfR w f.length
 have hB0:Below w.heap.size w (w.alloc (.cells (madeCells zaV (f.length*2)) 171)):=zqb
 clear h hu
 go_enter Tryz.func101,Tryz.ntmps101
 go_wp2_with fail
 clear hmk
 generalize w.alloc (.cells (madeCells zaV (f.length*2)) 171)=W at hB0 hR0 ⊢
 go_loopw [11] (fun v wr=>∃(i:Nat),i<=f.length/\v=.int .i64 i/\Hid (Below w.heap.size w wr)/\Hid (∃ps:List Pt,RowF wr w.heap.size f.length (fun j=>ps[j]?)/\(∀x∈ps,zbB wr (fun b=>w.heap.size<=b) x)/\ps.map (·.l)=f.take i)) (fun v _=>f.length-(intOf v).toNat)
 case atStart=>exact ⟨0,qK _,rfl,zqh hB0,zqh ⟨[],hR0.weaken (fun j x hx=>by simp at hx),(fun x hx=>by cases hx),rfl⟩⟩
 case round =>
  obtain ⟨i,hi,rfl,HB,HP⟩:=hrel
  by_cases hlt:i<f.length
  ·have h1:(0:Int)<=(i:Int):=by omega
   have h2:(i:Int)<(f.length:Int):=by omega
   obtain ⟨b,off,A2,c2,rfl,hbl,q0,hp⟩:=HI.out.at i hlt
   have q1:=((zbW HB.out).1 b (off+i) hbl).trans q0
   have HJ:=zqh (hp.next HB.out)
   have HO:=zqh hp
   clear q0 hp
   have hmem:za5 f i∈f:=by rw[zaz hlt];exact qG hlt
   have htk:=zqh (zct f i hlt)
   go_wp2_with fail
   refine (zfP (za5 f i) A2 _ c2 _ HJ.out (HU.out _ hmem).2).mono ?_
   rintro e w3 ⟨m,rfl,hmk,hb3⟩
   have HM:=zqh hmk
   have HB3:=zqh hb3
   have HB4:=zqh (HB.out.trans (hb3.mono HB.out.size))
   have hlt3:Hid (wr.heap.size<=w3.heap.size):=zqh hb3.size
   obtain ⟨ps,a1,a2,a3⟩:=HP.out
   have hl:ps.length=i:=by rw[<-qS (f:=(·.l)),a3,jR];omega
   have a1':=zqh (a1.next hb3)
   obtain ⟨u0,u1,c0,c1⟩:=a1'.out.there hlt
   have f0:=a1'.out.free (i*2)
   have f1:=a1'.out.free (i*2+1)
   have A2':=zqh a2
   have A3:=zqh a3
   have HL:=zqh hl
   clear hmk hb3 a1 a2 a3 hl
   go_wp2_with fail
   obtain ⟨hu,h0⟩:=HU.out _ hmem
   have hx:zbB w (fun b=>w.heap.size<=b) ⟨.slice A2 (za5 f i).length c2,m,za5 f i⟩:=HO.out.pt hu h0 HM.out (fun b hb h=>by omega)
   have hg:=zdS w3 w.heap.size (i*2) (i*2+1) (.slice A2 (za5 f i).length c2) (.int .u64 m)
   have hl:=HL.out
   refine ⟨⟨i+1,by omega,by go_num,zqh ?_,zqh ⟨ps++[⟨.slice A2 (za5 f i).length c2,m,za5 f i⟩],?_,?_,?_⟩⟩,by simp[intOf];omega⟩
   ·exact (HB4.out.setCell (p:=⟨w.heap.size,i*2,none⟩) zqn _).setCell (p:=⟨w.heap.size,i*2+1,none⟩) zqn _
   ·exact (a1'.out.put hlt ⟨.slice A2 (za5 f i).length c2,m,za5 f i⟩).weaken (zkf hl _)
   ·intro x hx'
    rcases List.mem_append.1 hx' with h | h
    ·exact ((A2'.out x h).below HB3.out).grown hg (fun k e=>by injection e with e;subst e;exact qL _)
    ·rw[List.mem_singleton.1 h]
     exact (hx.below HB4.out).grown hg (fun k e=>by injection e with e;subst e;exact qL _)
   ·rw[jE,A3.out,htk.out,<-zaz hlt];rfl
  ·obtain rfl:i=f.length:=by omega
   go_wp2_with fail
   go_ret
   obtain ⟨ps,a1,a2,a3⟩:=HP.out
   rw[qQ] at a3
   have hl:ps.length=f.length:=by rw[<-a3,qS]
   refine ⟨_,ps,rfl,?_,a2,a3,HB.out⟩
   have:=a1.own ps (fun j h=>qI h) (by omega) (by unfold maxLen;omega) zqn
   rwa [hl] at this
end

section
open Go.RowKit
def Src (w:World) (sz:Nat) (v:Value) (m:Nat) (ys:List Value):Prop :=
 ∃A c,v=.slice A m c/\m<=c/\c<=9223372036854775807/\ys.length=m*sz/\(∀u∈ys,u.oneCell'=true)/\(0<m->∃b off,A=some ⟨b,off,none⟩/\b<w.heap.size/\∀j u,ys[j]?=some u->w.cell? ⟨b,off+j,none⟩=some u)
theorem Src.next {w w':World} {sz:Nat} {v:Value} {m:Nat} {ys:List Value} (h:Src w sz v m ys) (hb:Below w.heap.size w w'):Src w' sz v m ys:=by
 obtain ⟨A,c,h1,h2,h3,h4,h5,h6⟩:=h
 refine ⟨A,c,h1,h2,h3,h4,h5,fun h0=>?_⟩
 obtain ⟨b,off,e,hlt,r⟩:=h6 h0
 exact ⟨b,off,e,qM hlt hb.size,fun j u hu=>((zbW hb).1 b _ hlt).trans (r j u hu)⟩
theorem zak.src {w:World} {v:Value} {l:List Int} (h:zak w v l):Src w 1 v l.length (l.map (Value.int .i64)):=by
 obtain ⟨A,c,h1,h2,h3,_,h5⟩:=h
 refine ⟨A,c,h1,h2,h3,by simp,fun u hu=>?_,fun h0=>?_⟩
 ·obtain ⟨x,_,rfl⟩:=List.mem_map.1 hu;rfl
 ·obtain ⟨b,off,e,hlt,r⟩:=h5 h0
  refine ⟨b,off,e,hlt,fun j u hu=>?_⟩
  rw[xC] at hu
  obtain ⟨x,hx,rfl⟩:=Option.map_eq_some_iff.1 hu
  obtain ⟨hj,rfl⟩:=List.getElem?_eq_some_iff.1 hx
  rw[r j hj,zay hj]
theorem zbB.one {w:World} {R:Nat->Prop} {x:Pt} (h:zbB w R x):x.v.oneCell'=true:=by obtain ⟨⟨A,c,e,_⟩,_⟩:=h;rw[e];rfl
theorem zn2 {xs:List Pt} (h:∀x∈xs,x.v.oneCell'=true):∀u∈xs.flatMap zin,u.oneCell'=true:=by
 intro u hu
 obtain ⟨x,hx,hu⟩:=List.mem_flatMap.1 hu
 simp only[zin,kB,xK,or_false] at hu
 rcases hu with rfl | rfl
 ·exact h x hx
 ·rfl
theorem zdC.src {w:World} {v:Value} {xs:List Pt} (h:zdC w v xs):Src w 2 v xs.length (xs.flatMap zin):=by
 obtain ⟨⟨A,c,h1,h2,h3,h5⟩,h4⟩:=h
 refine ⟨A,c,h1,h2,h3,zfk xs,zn2 (fun x hx=>(h4 x hx).one),fun h0=>?_⟩
 obtain ⟨g,cap,e,hc,hr⟩:=h5 h0
 refine ⟨g,0,e,hr.lt,fun j u hu=>?_⟩
 have hj:j<xs.length*2:=by rw[<-zfk];exact (List.getElem?_eq_some_iff.1 hu).1
 have hk:j / 2<xs.length:=by omega
 obtain ⟨a,b⟩:=hr.cell (j:=j / 2) (qI hk)
 obtain ⟨a',b'⟩:=zgn xs (j / 2) hk
 obtain ⟨k,hkk⟩:∃k,j / 2=k:=⟨_,rfl⟩
 rw[yH]
 rcases Nat.mod_two_eq_zero_or_one j with e | e
 ·obtain rfl:j=k*2:=by omega
  simp only[hkk] at a a'
  rw[a,<-a',hu]
 ·obtain rfl:j=k*2+1:=by omega
  simp only[hkk] at b b'
  rw[b,<-b',hu]
theorem zcG {T E:TypeId} {i:TypeInfo} {z:Value} {sz bytes:Nat} (hT:Tryz.prog.underlying T=some (.slice E)) (hi:Tryz.prog.info? E=some i) (hz:i.zero=some z) (hsz:i.size=sz) (hby:i.bytes=bytes) (hzs:z.cells.size=sz) (hs0:0<sz) (hb64:bytes<=64)
  (w:World) (base:Nat) (v:Value) (n:Nat) (xs:List Value) (u:Value) (m:Nat) (ys:List Value) (ty:TypeId) (h6:w.ownsRow base E sz v n xs) (hbw:base<=w.heap.size) (hI:Src w sz u m ys) (hl:n+m<=1000000000) :
  ∃v' w',(Builtin.append_ #[T,T] ty #[v,u]).run Tryz.prog w=.ok v' w'/\w'.ownsRow base E sz v' (n+m) (xs++ys)/\w.grownBy w' v.ownBlock/\(v'.ownBlock=v.ownBlock\/v'.ownBlock=some w.heap.size):=by
 obtain ⟨A,c,rfl,h2,_,h4,h1,h3⟩:=hI
 cases A with
 | none =>
  have h0:m=0:=by
   by_cases h0:0<m
   ·obtain ⟨b,off,e,_⟩:=h3 h0;cases e
   ·omega
  subst h0
  have hy:ys=[]:=qU (by omega)
  subst hy
  have hr:(Builtin.append_ #[T,T] ty #[v,.slice none 0 c]).run Tryz.prog w=.ok v w:=run_append_owned_none (P:=Tryz.prog) (w:=w) base T ty E i sz hT hi v n xs h6
  exact ⟨v,w,hr,by rw[jA];exact h6,⟨rfl,rfl,rfl,qL _,fun _ _ _=>rfl⟩,.inl rfl⟩
 | some ad =>
  obtain ⟨v',w',hr,q2,q3,_,q5⟩:=run_append_own_at (P:=Tryz.prog) w base T ty E i z sz bytes hT hi hz hsz hby hzs hs0 v n xs h6 ad m c ys h4 (fun j u hu=>by
   have hm:0<m:=by
    by_cases h0:0<m
    ·exact h0
    ·have:=(List.getElem?_eq_some_iff.1 hu).1
     have:m*sz=0:=by rw[show m=0 by omega,Nat.zero_mul]
     omega
   obtain ⟨b,off,e,_,hc⟩:=h3 hm
   injection e with e
   subst e
   rw[show (⟨b,off,none⟩:Addr).add j=⟨b,off+j,none⟩ by unfold Addr.add;split<;>simp_all]
   exact hc j u hu) h1 (by unfold maxLen;omega) (by have:=Nat.mul_le_mul hl hb64;omega) hbw
  exact ⟨v',w',hr,q2,q3,q5⟩
def zdT (w:World) (sz:Nat) (v:Value) (ss:List (Nat×List Value)):Prop :=
 ∃A c,v=.slice A ss.length c/\ss.length<=c/\c<=9223372036854775807/\(0<ss.length->∃b off,A=some ⟨b,off,none⟩/\b<w.heap.size/\∀j (h:j<ss.length),∃u,w.cell? ⟨b,off+j,none⟩=some u/\Src w sz u ss[j].1 ss[j].2)
theorem zdT.next {w w':World} {sz:Nat} {v:Value} {ss:List (Nat×List Value)} (h:zdT w sz v ss) (hb:Below w.heap.size w w'):zdT w' sz v ss:=by
 obtain ⟨A,c,h1,h2,h3,h6⟩:=h
 refine ⟨A,c,h1,h2,h3,fun h0=>?_⟩
 obtain ⟨b,off,e,hlt,r⟩:=h6 h0
 refine ⟨b,off,e,qM hlt hb.size,fun j hj=>?_⟩
 obtain ⟨u,hu,hs⟩:=r j hj
 exact ⟨u,((zbW hb).1 b _ hlt).trans hu,hs.next hb⟩
theorem zdT.at {w:World} {sz:Nat} {A:Option Addr} {n c:Nat} {ss:List (Nat×List Value)} (h:zdT w sz (.slice A n c) ss) (j:Nat) (hj:j<ss.length) :
  ∃b off B m d,A=some ⟨b,off,none⟩/\b<w.heap.size/\w.cell? ⟨b,off+j,none⟩=some (.slice B m d)/\m=ss[j].1/\Src w sz (.slice B m d) ss[j].1 ss[j].2:=by
 obtain ⟨A',c',e,h2,h3,h4⟩:=h
 injection e with e1 _ _
 subst e1
 obtain ⟨b,off,e,hb,r⟩:=h4 (by omega)
 obtain ⟨u,hu,hs⟩:=r j hj
 obtain ⟨B,d,rfl,_⟩:=id hs
 exact ⟨b,off,B,_,d,e,hb,hu,rfl,hs⟩
theorem zdT.len {w:World} {sz:Nat} {A:Option Addr} {n c:Nat} {ss:List (Nat×List Value)} (h:zdT w sz (.slice A n c) ss):n=ss.length/\ss.length<=c/\c<=9223372036854775807:=by
 obtain ⟨A',c',e,h2,h3,h4⟩:=h
 injection e with _ e2 e3
 subst e2 e3
 exact ⟨rfl,h2,h3⟩
def zho (ss:List (Nat×List Value)):Nat:=(ss.map (·.1)).sum
def zn3 (ss:List (Nat×List Value)):List Value:=(ss.map (·.2)).flatten
theorem zgo {ss:List (Nat×List Value)} {i:Nat} (h:i<ss.length):zho (ss.take (i+1))=zho (ss.take i)+ss[i].1:=by
 unfold zho;rw[zct ss i h,jE,List.sum_append];simp
theorem zlb {ss:List (Nat×List Value)} {i:Nat} (h:i<ss.length):zn3 (ss.take (i+1))=zn3 (ss.take i)++ss[i].2:=by
 unfold zn3;rw[zct ss i h,jE,List.flatten_append];simp
theorem zhJ {ss:List (Nat×List Value)} (i:Nat):zho (ss.take i)<=zho ss:=by
 conv=>rhs;rw[<-List.take_append_drop i ss]
 unfold zho;rw[jE,List.sum_append];omega
theorem zcF.srcs {w:World} {v:Value} {f:Fm} (h:zcF w v f):zdT w 1 v (f.map (fun p=>(p.length,p.map (Value.int .i64)))):=by
 obtain ⟨A,c,h1,h2,h3,h4⟩:=h
 refine ⟨A,c,by rw[qS];exact h1,by rw[qS];exact h2,h3,fun h0=>?_⟩
 rw[qS] at h0
 obtain ⟨b,off,e,hb,r⟩:=h4 h0
 refine ⟨b,off,e,hb,fun j hj=>?_⟩
 rw[qS] at hj
 obtain ⟨u,hu,hi⟩:=r j hj
 refine ⟨u,hu,?_⟩
 rw[kV,<-zaz hj]
 exact hi.src
theorem zes (f:Fm):zho (f.map (fun p=>(p.length,p.map (Value.int .i64))))=f.flatten.length:=by
 unfold zho;rw[List.map_map,List.length_flatten];rfl
theorem zji (f:Fm):zn3 (f.map (fun p=>(p.length,p.map (Value.int .i64))))=f.flatten.map (Value.int .i64):=by
 unfold zn3;rw[List.map_map,List.map_flatten];rfl
theorem zfm:(Tryz.prog.info? 3).map (fun i=>(i.zero,i.size,i.bytes))=some (some (.int .i64 0),1,8):=by kernel_rfl
theorem zt9 (n:Nat) (w:World) (hn:n<=4000000):Calls Tryz.prog 206 #[.slice none 0 0,.int .i64 n] w fun e w'=>∃v,e=.returned v/\w'.ownsRow w.heap.size 3 1 v 0 []/\Below w.heap.size w w':=by
 go_enter Tryz.func206,Tryz.ntmps206
 have h1:¬((n:Int)<0):=by omega
 by_cases h0:0<n
 ·have h2:(n:Int) > 0:=by omega
  obtain ⟨i,hi,hz,hs,hby⟩:=yZ zfm
  have hr:=fun ty=>Lib.run_append_nil_zeros (P:=Tryz.prog) w 80 3 ty 3 i _ .i64 .i64 Tryz.underlying80 Tryz.underlying3 hi hz n h0 (by omega) (by omega) (by rw[hby];omega)
  have hge:=grownCap_ge w n 0 3
  have hle:=grownCap_le_maxLen w n 0 3 (by unfold maxLen;omega)
  obtain ⟨G,hG⟩:∃G,grownCap w n 0 3=G:=⟨_,rfl⟩
  rw[hG] at hr hge hle
  have hG63:G<=9223372036854775807:=by unfold maxLen at hle;omega
  have HLE:=zqh hle
  have HS:=zqh hs
  have HZ:=zqh hz
  clear hG hle hi hz hs hby
  have hn2:(0:Int)<=(n:Int):=by omega
  go_wp2_with (at_builtin;refine Lib.wpList_append_run _ rfl _ _ _ _ rfl _ _ rfl rfl _ _ (hr _) ?_)
  go_ret
  refine ⟨_,rfl,?_,((qT _ w).drew).alloc zqn _⟩
  refine World.ownsRow_made w.drew _ _ zqn HLE.out ?_
  rw[Array.size_append,size_zeroCells,size_zeroCells,<-Nat.add_mul]
  simp[Value.cells]
  omega
 ·obtain rfl:n=0:=by omega
  go_wp2_with fail
  go_ret
  exact ⟨_,rfl,kD _ _ _ _,qT _ _⟩
theorem zfn (ss:List (Nat×List Value)) (A:Option Addr) (n c:Nat) (w:World) (h:zdT w 1 (.slice A n c) ss) (hl:zho ss<=4000000) :
  Calls Tryz.prog 185 #[.slice A n c] w fun e w'=>∃v,e=.returned v/\w'.ownsRow w.heap.size 3 1 v (zho ss) (zn3 ss)/\Below w.heap.size w w':=by
 have HI:=zqh h
 obtain ⟨hn,hc1,hc2⟩:=h.len
 subst hn
 have HL:=zqh hl
 clear h hl
 go_enter Tryz.func185,Tryz.ntmps185
 go_wp2_with fail
 go_loopw [3,11] (fun u v wr=>∃i s:Nat,i<=ss.length/\v=.int .i64 i/\u=.int .i64 s/\w=wr/\Hid (s=zho (ss.take i))) (fun _ v _=>ss.length-(intOf v).toNat)
 case atStart=>exact ⟨0,0,qK _,rfl,rfl,rfl,zqh rfl⟩
 case round =>
  obtain ⟨i,s,hi,rfl,rfl,rfl,HN⟩:=hrel
  have hs4:s<=4000000:=by have:=zhJ (ss:=ss) i;have:=HL.out;have:=HN.out;omega
  by_cases hlt:i<ss.length
  ·have h1:(0:Int)<=(i:Int):=by omega
   have h2:(i:Int)<(ss.length:Int):=by omega
   obtain ⟨b,off,B,m,d,rfl,_,q1,hm,_⟩:=HI.out.at i hlt
   have hst:=zqh (zgo hlt)
   rw[<-hm] at hst
   have hs5:s+m<=4000000:=by have:=zhJ (ss:=ss) (i+1);have:=HL.out;have:=HN.out;have:=hst.out;omega
   have HM:=zqh hm
   clear hm
   have h3:¬((s:Int)+(m:Int)<0):=by omega
   go_wp2_with fail
   refine ⟨⟨i+1,s+m,by omega,by go_num,by go_num,by first | rfl | trivial,zqh (by rw[hst.out,HN.out])⟩,by simp[intOf];omega⟩
  ·obtain rfl:i=ss.length:=by omega
   have HS:Hid (s=zho ss):=zqh (by have:=HN.out;rwa [qQ] at this)
   go_wp2_with fail
   refine (zt9 s _ hs4).mono ?_
   rintro e w3 ⟨v3,rfl,hown,hb3⟩
   have HO:=zqh hown
   have HB:=zqh hb3
   clear hown hb3
   go_wp2_with fail
   go_loopw [6,27] (fun u v wr=>∃i s:Nat,i<=ss.length/\v=.int .i64 i/\Hid (wr.ownsRow w.heap.size 3 1 u s (zn3 (ss.take i)))/\Hid (s=zho (ss.take i))/\Hid (Below w.heap.size w wr)) (fun _ v _=>ss.length-(intOf v).toNat)
   case atStart=>exact ⟨0,0,qK _,rfl,HO,zqh rfl,HB⟩
   case round =>
    obtain ⟨i,s2,hi2,rfl,HO,HN2,HB⟩:=hrel
    by_cases hlt:i<ss.length
    ·have h1:(0:Int)<=(i:Int):=by omega
     have h2:(i:Int)<(ss.length:Int):=by omega
     obtain ⟨b,off,B,m,d,rfl,_,q1,hm,hsrc⟩:=(HI.out.next HB.out).at i hlt
     have hst:=zqh (zgo hlt)
     have hct:=zqh (zlb hlt)
     have hle:s2+ss[i].1<=4000000:=by have:=zhJ (ss:=ss) (i+1);have:=HL.out;have:=HN2.out;have:=hst.out;omega
     obtain ⟨ti,hti,htz,hts,htb⟩:=yZ zfm
     obtain ⟨v',w',hr,o1,o2,_⟩:=zcG (T:=80) (E:=3) Tryz.underlying80 hti htz hts htb rfl (by decide) (by decide) _ w.heap.size _ s2 _ _ _ _ 80 HO.out HB.out.size hsrc (qH hle (by decide))
     have hlow:=World.ownsRow.lt HO.out
     have O1:=zqh o1
     have O2:=zqh (zcC HB.out HB.out.size o2 (fun k e=>(hlow k e).1))
     have HR:=zqh hr
     have HM:=zqh hm
     clear o1 o2 hr hlow hti htz hts htb hsrc hm hle
     go_wp2_with (first | (at_builtin;refine Lib.wpList_append_run _ rfl _ _ _ _ rfl _ _ rfl rfl v' w' HR.out ?_) | fail)
     refine ⟨⟨i+1,s2+ss[i].1,by omega,by go_num,zqh (by rw[hct.out];exact O1.out),zqh (by rw[hst.out,HN2.out]),O2⟩,by simp[intOf];omega⟩
    ·obtain rfl:i=ss.length:=by omega
     go_wp2_with fail
     go_ret
     have hO:=HO.out
     have hN:=HN2.out
     rw[qQ] at hO hN
     rw[hN] at hO
     exact ⟨_,rfl,hO,HB.out⟩
theorem zua (n:Nat) (w:World) (hn:n<=4000000):Calls Tryz.prog 204 #[.slice none 0 0,.int .i64 n] w fun e w'=>∃v,e=.returned v/\w'.ownsRow w.heap.size 171 2 v 0 []/\Below w.heap.size w w':=by
 go_enter Tryz.func204,Tryz.ntmps204
 have h1:¬((n:Int)<0):=by omega
 by_cases h0:0<n
 ·have h2:(n:Int) > 0:=by omega
  obtain ⟨i,hi,hz,hs,hby⟩:=yZ zdR
  have hr:=fun ty=>Lib.run_append_nil_zeros (P:=Tryz.prog) w 138 3 ty 171 i _ .i64 .i64 Tryz.underlying138 Tryz.underlying3 hi hz n h0 (by omega) (by omega) (by rw[hby];omega)
  have hge:=grownCap_ge w n 0 171
  have hle:=grownCap_le_maxLen w n 0 171 (by unfold maxLen;omega)
  obtain ⟨G,hG⟩:∃G,grownCap w n 0 171=G:=⟨_,rfl⟩
  rw[hG] at hr hge hle
  have hG63:G<=9223372036854775807:=by unfold maxLen at hle;omega
  have HLE:=zqh hle
  have HS:=zqh hs
  have HZ:=zqh hz
  clear hG hle hi hz hs hby
  have hn2:(0:Int)<=(n:Int):=by omega
  go_wp2_with (at_builtin;refine Lib.wpList_append_run _ rfl _ _ _ _ rfl _ _ rfl rfl _ _ (hr _) ?_)
  go_ret
  refine ⟨_,rfl,?_,((qT _ w).drew).alloc zqn _⟩
  refine World.ownsRow_made w.drew _ _ zqn HLE.out ?_
  rw[Array.size_append,size_zeroCells,size_zeroCells,<-Nat.add_mul]
  simp[Value.cells,zaV]
  omega
 ·obtain rfl:n=0:=by omega
  go_wp2_with fail
  go_ret
  exact ⟨_,rfl,kD _ _ _ _,qT _ _⟩
theorem zqf (ss:List (Nat×List Value)) (A:Option Addr) (n c:Nat) (w:World) (h:zdT w 2 (.slice A n c) ss) (hl:zho ss<=4000000) :
  Calls Tryz.prog 181 #[.slice A n c] w fun e w'=>∃v,e=.returned v/\w'.ownsRow w.heap.size 171 2 v (zho ss) (zn3 ss)/\Below w.heap.size w w':=by
 have HI:=zqh h
 obtain ⟨hn,hc1,hc2⟩:=h.len
 subst hn
 have HL:=zqh hl
 clear h hl
 go_enter Tryz.func181,Tryz.ntmps181
 go_wp2_with fail
 go_loopw [3,11] (fun u v wr=>∃i s:Nat,i<=ss.length/\v=.int .i64 i/\u=.int .i64 s/\w=wr/\Hid (s=zho (ss.take i))) (fun _ v _=>ss.length-(intOf v).toNat)
 case atStart=>exact ⟨0,0,qK _,rfl,rfl,rfl,zqh rfl⟩
 case round =>
  obtain ⟨i,s,hi,rfl,rfl,rfl,HN⟩:=hrel
  have hs4:s<=4000000:=by have:=zhJ (ss:=ss) i;have:=HL.out;have:=HN.out;omega
  by_cases hlt:i<ss.length
  ·have h1:(0:Int)<=(i:Int):=by omega
   have h2:(i:Int)<(ss.length:Int):=by omega
   obtain ⟨b,off,B,m,d,rfl,_,q1,hm,_⟩:=HI.out.at i hlt
   have hst:=zqh (zgo hlt)
   rw[<-hm] at hst
   have hs5:s+m<=4000000:=by have:=zhJ (ss:=ss) (i+1);have:=HL.out;have:=HN.out;have:=hst.out;omega
   have HM:=zqh hm
   clear hm
   have h3:¬((s:Int)+(m:Int)<0):=by omega
   go_wp2_with fail
   refine ⟨⟨i+1,s+m,by omega,by go_num,by go_num,by first | rfl | trivial,zqh (by rw[hst.out,HN.out])⟩,by simp[intOf];omega⟩
  ·obtain rfl:i=ss.length:=by omega
   have HS:Hid (s=zho ss):=zqh (by have:=HN.out;rwa [qQ] at this)
   go_wp2_with fail
   refine (zua s _ hs4).mono ?_
   rintro e w3 ⟨v3,rfl,hown,hb3⟩
   have HO:=zqh hown
   have HB:=zqh hb3
   clear hown hb3
   go_wp2_with fail
   go_loopw [6,27] (fun u v wr=>∃i s:Nat,i<=ss.length/\v=.int .i64 i/\Hid (wr.ownsRow w.heap.size 171 2 u s (zn3 (ss.take i)))/\Hid (s=zho (ss.take i))/\Hid (Below w.heap.size w wr)) (fun _ v _=>ss.length-(intOf v).toNat)
   case atStart=>exact ⟨0,0,qK _,rfl,HO,zqh rfl,HB⟩
   case round =>
    obtain ⟨i,s2,hi2,rfl,HO,HN2,HB⟩:=hrel
    by_cases hlt:i<ss.length
    ·have h1:(0:Int)<=(i:Int):=by omega
     have h2:(i:Int)<(ss.length:Int):=by omega
     obtain ⟨b,off,B,m,d,rfl,_,q1,hm,hsrc⟩:=(HI.out.next HB.out).at i hlt
     have hst:=zqh (zgo hlt)
     have hct:=zqh (zlb hlt)
     have hle:s2+ss[i].1<=4000000:=by have:=zhJ (ss:=ss) (i+1);have:=HL.out;have:=HN2.out;have:=hst.out;omega
     obtain ⟨ti,hti,htz,hts,htb⟩:=yZ zdR
     obtain ⟨v',w',hr,o1,o2,_⟩:=zcG (T:=138) (E:=171) Tryz.underlying138 hti htz hts htb rfl (by decide) (by decide) _ w.heap.size _ s2 _ _ _ _ 138 HO.out HB.out.size hsrc (qH hle (by decide))
     have hlow:=World.ownsRow.lt HO.out
     have O1:=zqh o1
     have O2:=zqh (zcC HB.out HB.out.size o2 (fun k e=>(hlow k e).1))
     have HR:=zqh hr
     have HM:=zqh hm
     clear o1 o2 hr hlow hti htz hts htb hsrc hm hle
     go_wp2_with (first | (at_builtin;refine Lib.wpList_append_run _ rfl _ _ _ _ rfl _ _ rfl rfl v' w' HR.out ?_) | fail)
     refine ⟨⟨i+1,s2+ss[i].1,by omega,by go_num,zqh (by rw[hct.out];exact O1.out),zqh (by rw[hst.out,HN2.out]),O2⟩,by simp[intOf];omega⟩
    ·obtain rfl:i=ss.length:=by omega
     go_wp2_with fail
     go_ret
     have hO:=HO.out
     have hN:=HN2.out
     rw[qQ] at hO hN
     rw[hN] at hO
     exact ⟨_,rfl,hO,HB.out⟩
end

section
open Go.RowKit
section
variable {α κ:Type} [Inhabited α] [DecidableEq κ] (key:α->κ)
def zb2 (d:Array α) (j:Nat):Bool:=decide (j=0)||!decide (key d[j]! = key d[j-1]!)
def zcD (d:Array α) (m:Nat):List α:=((List.range m).filter (zb2 key d)).map (d[·]!)
variable {key}
theorem zcn (d:Array α) (m:Nat):zcD key d (m+1)=zcD key d m++(if zb2 key d m then [d[m]!] else []):=by
 unfold zcD
 rw[kF,kY,jE]
 congr 1
 by_cases h:zb2 key d m<;>simp[h]
theorem zgZ (d:Array α) (m:Nat) (h:∀j,j<m->zb2 key d j=true):zcD key d m=(List.range m).map (d[·]!):=by
 unfold zcD
 rw[List.filter_eq_self.2 (fun j hj=>h j (List.mem_range.1 hj))]
theorem zg0 {d:Array α} {m:Nat} {x:α} (h:x∈zcD key d m):∃i,i<m/\d[i]! = x:=by
 unfold zcD at h
 obtain ⟨i,hi,e⟩:=List.mem_map.1 h
 exact ⟨i,List.mem_range.1 (List.mem_filter.1 hi).1,e⟩
theorem zjj (d:Array α) (m:Nat):(zcD key d m).length<=m:=by
 unfold zcD
 rw[qS]
 exact qH (xA _ _) (by simp)
variable {R:κ->κ->Prop}
theorem zio (hi:∀a,¬R a a) (ht:∀a b c,R a b->R b c->R a c) {d:Array α} {n:Nat} (hs:∀i j,i<j->j<n->R (key d[i]!) (key d[j]!)\/key d[i]! = key d[j]!) :
  ∀m,m<=n->((zcD key d m).map key).Pairwise R/\∀i,i<m->∃y∈zcD key d m,key y=key d[i]!
 | 0,_=>⟨List.Pairwise.nil,fun i h=>absurd h (jD _)⟩
 | m+1,hm=>by
  obtain ⟨h1,h2⟩:=zio hi ht hs m (by omega)
  rw[zcn]
  by_cases hk:zb2 key d m=true
  ·rw[if_pos hk]
   refine ⟨?_,fun i hi'=>?_⟩
   ·rw[jE,List.pairwise_append]
    refine ⟨h1,by simp,fun a ha b hb=>?_⟩
    simp only[jW,kL,xG] at hb
    subst hb
    obtain ⟨y,hy,rfl⟩:=List.mem_map.1 ha
    obtain ⟨i,him,rfl⟩:=zg0 hy
    rcases hs i m him (by omega) with h | h
    ·exact h
    ·exfalso
     have hm0:m≠0:=by omega
     have hne:key d[m]! ≠ key d[m-1]! := by
      unfold zb2 at hk
      simpa [hm0] using hk
     rcases hs (m-1) m (by omega) (by omega) with h3 | h3
     ·by_cases e:i=m-1
      ·subst e;rw[h] at h3;exact hi _ h3
      ·rcases hs i (m-1) (by omega) (by omega) with h4 | h4
       ·have:=ht _ _ _ h4 h3;rw[h] at this;exact hi _ this
       ·rw[<-h4,h] at h3;exact hi _ h3
     ·exact hne h3.symm
   ·by_cases e:i=m
    ·subst e;exact ⟨_,yJ _ (List.mem_singleton.2 rfl),rfl⟩
    ·obtain ⟨y,hy,e2⟩:=h2 i (by omega)
     exact ⟨y,jH _ hy,e2⟩
  ·rw[if_neg hk,jA]
   refine ⟨h1,fun i hi'=>?_⟩
   by_cases e:i=m
   ·subst e
    unfold zb2 at hk
    have:i≠0/\key d[i]! = key d[i-1]! := by simpa using hk
    obtain ⟨y,hy,e2⟩:=h2 (i-1) (by omega)
    exact ⟨y,hy,by rw[e2,this.2]⟩
   ·exact h2 i (by omega)
end
theorem zhK {l:List Int} (hs:l.Pairwise (·<=·)):Up (Lib.compact l)/\∀x,x∈Lib.compact l↔x∈l:=by
 have e:Lib.compact l=zcD (fun x:Int=>x) l.toArray l.length:=by
  unfold Lib.compact Lib.compactUpTo zcD
  congr 1
  apply List.filter_congr
  intro j _
  unfold Lib.keeps zb2
  by_cases h:j=0<;>simp[h]
 have hat:∀i,i<l.length->l.toArray[i]! = zbi l i:=fun i hi=>by
  rw[getElem!_pos l.toArray i (by simpa using hi),zay hi];simp
 have hso:∀i j,i<j->j<l.length->(l.toArray[i]! : Int)<l.toArray[j]! \/ (l.toArray[i]! : Int)=l.toArray[j]! := fun i j hij hj=>by
  rw[hat i (by omega),hat j hj,zay (by omega),zay hj]
  have:=List.pairwise_iff_getElem.1 hs i j (by omega) hj hij
  omega
 obtain ⟨h1,h2⟩:=zio (key:=fun x:Int=>x) (R:=fun a b=>a<b) (d:=l.toArray) (n:=l.length) (fun a h=>by omega) (fun a b c h h'=>by omega) hso l.length zqn
 rw[List.map_id'] at h1
 refine ⟨by rw[e];exact h1,fun x=>?_⟩
 rw[e]
 constructor
 ·intro h
  obtain ⟨i,hi,rfl⟩:=zg0 h
  rw[hat i hi,zay hi];exact qG hi
 ·intro h
  obtain ⟨i,hi,rfl⟩:=List.mem_iff_getElem.1 h
  obtain ⟨y,hy,e2⟩:=h2 i hi
  have e3:y=l[i]:=by rw[<-zay hi,<-hat i hi];exact e2
  rw[<-e3];exact hy
end
end Go.Proofs.YtdmodhnhldbpnaaGreat
