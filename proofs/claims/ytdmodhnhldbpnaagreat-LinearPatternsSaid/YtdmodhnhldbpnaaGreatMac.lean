/- Joined: Look, Tabs, SpansAt, Node, TrSize, Strip, TurnSpans, NodeTurn, SetEq. -/
import Derived.Test.YtdmodhnhldbpnaaGreatProg
import Derived.Test.YtdmodhnhldbpnaaGreatMaa
import Derived.BigRegion
import Derived.BigQuiet
import Derived.Test.YtdmodhnhldbpnaaGreatMab
import Derived.Laws.OwnMore
import Derived.Deep.AppendLies
import Derived.Test.YtdmodhnhldbpnaaGreatAid
/- What the reference's look answers. -/
set_option linter.unusedVariables false
set_option maxHeartbeats 4000000
set_option maxRecDepth 100000
set_option linter.unusedSimpArgs false
namespace Go.Proofs.YtdmodhnhldbpnaaGreat
section
open Go.RowKit
def zlt (fa:Nat->Nat->Bool) (back:Bool) (i m:Nat):Bool:=(List.range m).any (fun k=>bif back then fa k i else fa i k)
def zdj (fa:Nat->Nat->Bool) (n:Nat) (back neg:Bool) (i j:Nat):Bool:=if i=j then zlt fa back i n != neg else false
def zcw (fa:Nat->Nat->Bool) (n:Nat) (back neg:Bool) (i i' j':Nat):Bool:=if i'<i then zdj fa n back neg i' j' else false
theorem ziE {fa:Nat->Nat->Bool} {back:Bool} {i:Nat}:zlt fa back i 0=false:=rfl
theorem zfz {fa:Nat->Nat->Bool} {i k:Nat}:zlt fa false i (k+1)=(zlt fa false i k||fa i k):=by unfold zlt;rw[kF,yX];simp
theorem zfA {fa:Nat->Nat->Bool} {i k:Nat}:zlt fa true i (k+1)=(zlt fa true i k||fa k i):=by unfold zlt;rw[kF,yX];simp
theorem zgx {fa:Nat->Nat->Bool} {n:Nat} {back neg:Bool} {i i' j':Nat}:(if i'=i/\j'=i then zlt fa back i n != neg else zcw fa n back neg i i' j')=zcw fa n back neg (i+1) i' j':=by
 by_cases e:i'=i/\j'=i
 ·obtain ⟨rfl,rfl⟩:=e
  unfold zcw zdj
  rw[if_pos ⟨rfl,rfl⟩,if_pos (by omega),if_pos rfl]
 ·rw[if_neg e]
  unfold zcw
  by_cases c:i'<i
  ·rw[if_pos c,if_pos (by omega)]
  ·rw[if_neg c]
   by_cases c2:i'=i
   ·subst c2
    rw[if_pos (by omega)]
    unfold zdj
    rw[if_neg (fun q=>e ⟨rfl,q.symm⟩)]
   ·rw[if_neg (by omega)]
theorem zoM (n ga:Nat) (fa:Nat->Nat->Bool) (t:Tr) (hn:n<=1000) (hk:t.kind=8) (w:World) (ha:TIn w ga n fa) :
  Calls Tryz.prog 54 #[.agg t.cs.toArray,.slice (some ⟨ga,0,none⟩) n n] w (zcq w n (zdj fa n false t.neg)):=by
 obtain ⟨ra,ha⟩:=ha
 have HA:=zqh ha
 clear ha
 have hA0:At (w.alloc (Obj.cells t.cs.toArray 49)) w.heap.size 49 t.cs.toArray:=At.new _ _ _
 have hB0:Below w.heap.size w (w.alloc (Obj.cells t.cs.toArray 49)):=zqb
 have HK:=zqh hk
 clear hk
 go_enter Tryz.func54,Tryz.ntmps54
 go_wp2_with fail
 refine (zcQ n hn _).mono ?_
 rintro e w1 ⟨rfl,ht1,hb1⟩
 have HAt:=zqh (hA0.step hb1 rfl)
 have HB1:=zqh (zaf hB0 hb1 rfl rfl rfl rfl)
 obtain ⟨g,hg⟩:∃g,g=(w.alloc (Obj.cells t.cs.toArray 49)).heap.size:=⟨_,rfl⟩
 obtain ⟨r,hr⟩:∃r:Nat->Nat,r=(fun i=>(w.alloc (Obj.cells t.cs.toArray 49)).heap.size+1+i):=⟨_,rfl⟩
 rw[<-hr] at ht1
 clear hr
 have hgw:w.heap.size+1=g:=by rw[hg];simp
 have hT1:Hid (zau w1 41 4 (w.heap.size+1) g n r (zcw fa n false t.neg 0)):=by
  have h2:=ht1.congr (f':=zcw fa n false t.neg 0) (fun i j _ _=>by unfold zcw;rw[if_neg (jD _)])
  rw[<-hg] at h2
  rw[hgw];exact h2
 clear ht1 hb1 hA0 hB0
 have HGW:=zqh hgw
 try rw[<-hg]
 try rw[hgw]
 clear hg hgw
 go_wp2_with fail
 go_loopw [14] (fun x wr=>∃i:Nat,i<=n/\x=.int .i64 i/\Hid (zau wr 41 4 (w.heap.size+1) g n r (zcw fa n false t.neg i))/\Hid (At wr w.heap.size 49 t.cs.toArray)/\Hid (Below w.heap.size w wr)) (fun x _=>n-(intOf x).toNat)
 case atStart=>exact ⟨0,qK _,rfl,hT1,HAt,HB1⟩
 case round =>
  clear hT1 HAt HB1
  obtain ⟨i,hi,rfl,hT,hAt,hB⟩:=hrel
  by_cases hlt:i<n
  ·have hd1:decide ((i:Int)<(n:Int))=true:=za6 (by omega)
   have hd2:(i:Int)<(n:Int):=by omega
   have hi0:(0:Int)<=(i:Int):=by omega
   go_wp2_with fail
   have hA:=HA.out.next hB.out
   obtain ⟨c0,c5,c6,c7,c8⟩:=At.tr_cell hAt.out
   rw[HK.out] at c0
   clear c5 c6 c7
   go_loop [7,19] (fun is x=>∃k:Nat,k<=n/\x=.int .i64 k/\is=.bool (zlt fa false i k)) (fun _ x=>n-(intOf x).toNat)
   case atStart=>exact ⟨0,qK _,rfl,by rw[ziE]⟩
   case round =>
    obtain ⟨k,hk,rfl,rfl⟩:=hrel
    obtain ⟨y,hy⟩:∃y:Bool,zlt fa false i k=y:=⟨_,rfl⟩
    rw[hy]
    have HY:=zqh hy
    clear hy
    by_cases hltk:k<n
    ·have q1:=hA.cellTop hlt
     have q2:=hA.cellRow hlt hltk
     obtain ⟨z,hz⟩:∃z:Bool,fa i k=z:=⟨_,rfl⟩
     rw[hz] at q2
     have HZ:=zqh hz
     clear hz
     have hk0:(0:Int)<=(k:Int):=by omega
     have hkn:(k:Int)<(n:Int):=by omega
     cases y
     ·cases z
      ·go_wp2_with fail
       exact ⟨⟨k+1,by omega,by go_num,by rw[zfz,HY.out,HZ.out];rfl⟩,by simp[intOf];omega⟩
      ·go_wp2_with fail
       exact ⟨⟨k+1,by omega,by go_num,by rw[zfz,HY.out,HZ.out];rfl⟩,by simp[intOf];omega⟩
     ·go_wp2_with fail
      exact ⟨⟨k+1,by omega,by go_num,by rw[zfz,HY.out];rfl⟩,by simp[intOf];omega⟩
    ·obtain rfl:k=n:=by omega
     have q5:=hT.out.cellTop hlt
     have q6:=hT.out.cellRow hlt hlt
     have q7:=hT.out.freeRow hlt i
     obtain ⟨old,hold⟩:∃v:Bool,zcw fa k false t.neg i i i=v:=⟨_,rfl⟩
     rw[hold] at q6
     clear hold c0
     obtain ⟨ng,hng⟩:∃ng:Bool,t.neg=ng:=⟨_,rfl⟩
     rw[hng] at c8
     have HN:=zqh hng
     clear hng hA
     go_wp2_with fail
     go_region
     go_wp2_with fail
     go_roundw
     case rel=>exact ⟨i+1,by omega,by go_num,zqh (zau.drew ((hT.out.put i hlt (y != ng)).congr (fun i' j' _ _=>by rw[<-zgx,HY.out,HN.out]))),zqh (At.drew (hAt.out.other (by have:=(hT.out.rlow i hlt).1;dsimp only;omega) _)),zqh (yF (hB.out.setCell (by have:=(hT.out.rlow i hlt).1;dsimp only;omega) _))⟩
     case measure=>simp[intOf];omega
  ·obtain rfl:i=n:=by omega
   go_wp2_with fail
   go_ret
   exact ⟨g,r,rfl,(hT.out.lower (by omega)).congr (fun i' j' h _=>by unfold zcw;rw[if_pos h]),hB.out⟩
theorem zoN (n ga:Nat) (fa:Nat->Nat->Bool) (t:Tr) (hn:n<=1000) (hk:t.kind=9) (w:World) (ha:TIn w ga n fa) :
  Calls Tryz.prog 54 #[.agg t.cs.toArray,.slice (some ⟨ga,0,none⟩) n n] w (zcq w n (zdj fa n true t.neg)):=by
 obtain ⟨ra,ha⟩:=ha
 have HA:=zqh ha
 clear ha
 have hA0:At (w.alloc (Obj.cells t.cs.toArray 49)) w.heap.size 49 t.cs.toArray:=At.new _ _ _
 have hB0:Below w.heap.size w (w.alloc (Obj.cells t.cs.toArray 49)):=zqb
 have HK:=zqh hk
 clear hk
 go_enter Tryz.func54,Tryz.ntmps54
 go_wp2_with fail
 refine (zcQ n hn _).mono ?_
 rintro e w1 ⟨rfl,ht1,hb1⟩
 have HAt:=zqh (hA0.step hb1 rfl)
 have HB1:=zqh (zaf hB0 hb1 rfl rfl rfl rfl)
 obtain ⟨g,hg⟩:∃g,g=(w.alloc (Obj.cells t.cs.toArray 49)).heap.size:=⟨_,rfl⟩
 obtain ⟨r,hr⟩:∃r:Nat->Nat,r=(fun i=>(w.alloc (Obj.cells t.cs.toArray 49)).heap.size+1+i):=⟨_,rfl⟩
 rw[<-hr] at ht1
 clear hr
 have hgw:w.heap.size+1=g:=by rw[hg];simp
 have hT1:Hid (zau w1 41 4 (w.heap.size+1) g n r (zcw fa n true t.neg 0)):=by
  have h2:=ht1.congr (f':=zcw fa n true t.neg 0) (fun i j _ _=>by unfold zcw;rw[if_neg (jD _)])
  rw[<-hg] at h2
  rw[hgw];exact h2
 clear ht1 hb1 hA0 hB0
 have HGW:=zqh hgw
 try rw[<-hg]
 try rw[hgw]
 clear hg hgw
 go_wp2_with fail
 go_loopw [14] (fun x wr=>∃i:Nat,i<=n/\x=.int .i64 i/\Hid (zau wr 41 4 (w.heap.size+1) g n r (zcw fa n true t.neg i))/\Hid (At wr w.heap.size 49 t.cs.toArray)/\Hid (Below w.heap.size w wr)) (fun x _=>n-(intOf x).toNat)
 case atStart=>exact ⟨0,qK _,rfl,hT1,HAt,HB1⟩
 case round =>
  clear hT1 HAt HB1
  obtain ⟨i,hi,rfl,hT,hAt,hB⟩:=hrel
  by_cases hlt:i<n
  ·have hd1:decide ((i:Int)<(n:Int))=true:=za6 (by omega)
   have hd2:(i:Int)<(n:Int):=by omega
   have hi0:(0:Int)<=(i:Int):=by omega
   go_wp2_with fail
   have hA:=HA.out.next hB.out
   obtain ⟨c0,c5,c6,c7,c8⟩:=At.tr_cell hAt.out
   rw[HK.out] at c0
   clear c5 c6 c7
   go_loop [7,19] (fun is x=>∃k:Nat,k<=n/\x=.int .i64 k/\is=.bool (zlt fa true i k)) (fun _ x=>n-(intOf x).toNat)
   case atStart=>exact ⟨0,qK _,rfl,by rw[ziE]⟩
   case round =>
    obtain ⟨k,hk,rfl,rfl⟩:=hrel
    obtain ⟨y,hy⟩:∃y:Bool,zlt fa true i k=y:=⟨_,rfl⟩
    rw[hy]
    have HY:=zqh hy
    clear hy
    by_cases hltk:k<n
    ·have q1:=hA.cellTop hltk
     have q2:=hA.cellRow hltk hlt
     obtain ⟨z,hz⟩:∃z:Bool,fa k i=z:=⟨_,rfl⟩
     rw[hz] at q2
     have HZ:=zqh hz
     clear hz
     have hk0:(0:Int)<=(k:Int):=by omega
     have hkn:(k:Int)<(n:Int):=by omega
     cases y
     ·cases z
      ·go_wp2_with fail
       exact ⟨⟨k+1,by omega,by go_num,by rw[zfA,HY.out,HZ.out];rfl⟩,by simp[intOf];omega⟩
      ·go_wp2_with fail
       exact ⟨⟨k+1,by omega,by go_num,by rw[zfA,HY.out,HZ.out];rfl⟩,by simp[intOf];omega⟩
     ·go_wp2_with fail
      exact ⟨⟨k+1,by omega,by go_num,by rw[zfA,HY.out];rfl⟩,by simp[intOf];omega⟩
    ·obtain rfl:k=n:=by omega
     have q5:=hT.out.cellTop hlt
     have q6:=hT.out.cellRow hlt hlt
     have q7:=hT.out.freeRow hlt i
     obtain ⟨old,hold⟩:∃v:Bool,zcw fa k true t.neg i i i=v:=⟨_,rfl⟩
     rw[hold] at q6
     clear hold c0
     obtain ⟨ng,hng⟩:∃ng:Bool,t.neg=ng:=⟨_,rfl⟩
     rw[hng] at c8
     have HN:=zqh hng
     clear hng hA
     go_wp2_with fail
     go_region
     go_wp2_with fail
     go_roundw
     case rel=>exact ⟨i+1,by omega,by go_num,zqh (zau.drew ((hT.out.put i hlt (y != ng)).congr (fun i' j' _ _=>by rw[<-zgx,HY.out,HN.out]))),zqh (At.drew (hAt.out.other (by have:=(hT.out.rlow i hlt).1;dsimp only;omega) _)),zqh (yF (hB.out.setCell (by have:=(hT.out.rlow i hlt).1;dsimp only;omega) _))⟩
     case measure=>simp[intOf];omega
  ·obtain rfl:i=n:=by omega
   go_wp2_with fail
   go_ret
   exact ⟨g,r,rfl,(hT.out.lower (by omega)).congr (fun i' j' h _=>by unfold zcw;rw[if_pos h]),hB.out⟩
end

section
open Go.RowKit
theorem zau.grown {w w':World} {E B:TypeId} {base g n:Nat} {r:Nat->Nat} {f:Nat->Nat->Bool} {row:Option Nat} (h:zau w E B base g n r f) (hg:w.grownBy w' row) (h1:some g≠row) (h2:∀i,i<n->some (r i)≠row):zau w' E B base g n r f :=
 ⟨(hg.block g h.top.lt h1).trans h.top,h.low,fun i hi=>(hg.block (r i) (h.row i hi).lt (h2 i hi)).trans (h.row i hi),h.rlow,h.apart⟩
abbrev TG:=Nat×(Nat->Nat)
def tv (n:Nat) (p:TG):Value:=.slice (some ⟨p.1,0,none⟩) n n
structure zb0 (w:World) (base:Nat) (v:Value) (n:Nat) (ts:List TG) (fs:List (Nat->Nat->Bool)):Prop where
 own:w.ownsRow base 36 1 v ts.length (ts.map (tv n))
 len:ts.length=fs.length
 tab:∀(j:Nat) (h:j<ts.length) (h':j<fs.length),zau w 41 4 base ts[j].1 n ts[j].2 fs[j]
 off:∀b,v.ownBlock=some b->∀p∈ts,p.1≠b/\∀i,i<n->p.2 i≠b
section
variable {w w' w0:World} {base n:Nat} {v:Value} {ts:List TG} {fs:List (Nat->Nat->Bool)}
theorem zb0.nil (w:World) (base n:Nat):zb0 w base (.slice none 0 0) n [] [] :=
 ⟨kD w base _ 1,rfl,fun j h=>absurd h (jD _),fun b _ p hp=>by cases hp⟩
theorem zb0.next (h:zb0 w base v n ts fs) (hb:Below w.heap.size w w'):zb0 w' base v n ts fs :=
 ⟨World.ownsRow.kept (row:=none) h.own (zlq hb) (by cases hv:v.ownBlock<;>simp),h.len,fun j h1 h2=>(h.tab j h1 h2).next hb,h.off⟩
theorem zb0.cell {g cap m:Nat} (h:zb0 w base (.slice (some ⟨g,0,none⟩) m cap) n ts fs) (j:Nat) (hj:j<ts.length):w.cell? ⟨g,j,none⟩=some (.slice (some ⟨ts[j].1,0,none⟩) n n):=by
 have hl:m=ts.length:=by
  rcases h.own.2 with ⟨hv,_⟩ | ⟨g',cap',cur,hv,_⟩
  ·cases hv
  ·injection hv
 subst hl
 rw[xZ h.own j (by omega)]
 simp[hj,tv]
theorem zb0.form (h:zb0 w base v n ts fs) (hn:0<ts.length):∃g cap,v=.slice (some ⟨g,0,none⟩) ts.length cap/\base<=g/\g<w.heap.size:=h.own.form hn
theorem zb0.len_form (h:zb0 w base v n ts fs):∃A cap,v=.slice A ts.length cap:=by
 rcases h.own.2 with ⟨rfl,hn⟩ | ⟨g,cap,cur,rfl,_⟩
 ·exact ⟨none,0,by rw[hn]⟩
 ·exact ⟨_,_,rfl⟩
theorem zb0.push {g2:Nat} {r2:Nat->Nat} {f2:Nat->Nat->Bool} {g cap H:Nat} (h:zb0 w base v n ts fs) (ht:zau w 41 4 base g2 n r2 f2)
  (hown:w'.ownsRow base 36 1 (.slice (some ⟨g,0,none⟩) (ts.length+1) cap) (ts.length+1) (ts.map (tv n)++[tv n (g2,r2)])) (hg:w.grownBy w' v.ownBlock)
  (hat:v.ownBlock=some g\/g=H) (hH:w.heap.size<=H) (hnew:∀b,v.ownBlock=some b->g2≠b/\∀i,i<n->r2 i≠b):zb0 w' base (.slice (some ⟨g,0,none⟩) (ts.length+1) cap) n (ts++[(g2,r2)]) (fs++[f2]):=by
 have hkeep:∀(j:Nat) (h1:j<ts.length) (h2:j<fs.length),zau w' 41 4 base ts[j].1 n ts[j].2 fs[j]:=fun j h1 h2=>by
  refine (h.tab j h1 h2).grown hg ?_ ?_
  ·intro e
   exact (h.off _ e.symm _ (qG h1)).1 rfl
  ·intro i hi e
   exact (h.off _ e.symm _ (qG h1)).2 i hi rfl
 have hkeep2:zau w' 41 4 base g2 n r2 f2:=ht.grown hg (fun e=>(hnew _ e.symm).1 rfl) (fun i hi e=>(hnew _ e.symm).2 i hi rfl)
 refine ⟨?_,?_,?_,?_⟩
 ·rw[qF,jE];exact hown
 ·rw[qF,qF,h.len];rfl
 ·intro j h1 h2
  by_cases hj:j<ts.length
  ·have hj2:j<fs.length:=by have:=h.len;omega
   have e1:(ts++[(g2,r2)])[j]=ts[j]:=yP hj
   have e2:(fs++[f2])[j]=fs[j]:=yP hj2
   rw[e1,e2];exact hkeep j hj hj2
  ·have hj1:j=ts.length:=by rw[qF] at h1;simp at h1;omega
   subst hj1
   have e1:(ts++[(g2,r2)])[ts.length]=(g2,r2):=by simp
   have e2:(fs++[f2])[ts.length]'h2=f2:=by rw[gC (by rw[h.len];exact qL _)];simp[h.len]
   rw[e1,e2];exact hkeep2
 ·intro b hb p hp
  have hbg:g=b:=by simpa [Value.ownBlock] using hb
  subst hbg
  rcases hat with hat | rfl
  ·rw[yO] at hp
   rcases hp with hp | hp
   ·exact h.off _ hat p hp
   ·have:p=(g2,r2):=by simpa using hp
    subst this
    exact hnew _ hat
  ·have low:∀q:TG,(∃f,zau w 41 4 base q.1 n q.2 f)->q.1≠g/\∀i,i<n->q.2 i≠g:=fun q ⟨f,hq⟩=>⟨by have:=hq.top.lt;omega,fun i hi=>by have:=(hq.row i hi).lt;omega⟩
   rw[yO] at hp
   rcases hp with hp | hp
   ·obtain ⟨j,hj,rfl⟩:=yT hp
    exact low _ ⟨_,h.tab j hj (by have:=h.len;omega)⟩
   ·have:p=(g2,r2):=by simpa using hp
    subst this
    exact low _ ⟨_,ht⟩
end
def zbL (s:St) (l:List Nat) (i j:Nat):Bool:=decide (j=i+1/\i<l.length)&&s.has ((l[i]?).getD 0)
def zcR (l:List Nat) (i j:Nat):Bool:=decide (i=j)&&(decide (i=0)||decide ((l[i-1]?).getD 0=10))
def zjG (l:List Nat) (i j:Nat):Bool:=decide (i=j)&&(decide (i=l.length)||decide ((l[i]?).getD 0=10))
def noF (_ _:Nat):Bool:=false
def zae (l:List Nat):Nat->Tr->Nat->Nat->Bool
 | 0,_=>noF
 | k+1,t =>
  let n:=l.length+1
  let fs:=t.parts.map (zae l k)
  if t.kind=1 then eqF
  else if t.kind=2 then zbL t.set l
  else if t.kind=3 then fs.foldl (fun f g=>zaF f g n) eqF
  else if t.kind=4 then fs.foldl (fun f g i j=>f i j||g i j) noF
  else if t.kind=5 then fs.foldl (fun f g i j=>f i j&&g i j) (zaW noF)
  else if t.kind=6 then zaW (fs.headD noF)
  else if t.kind=7 then zcI (fs.headD noF) n t.lo.toNat t.hi
  else if t.kind=8 then zdj (fs.headD noF) n false t.neg
  else if t.kind=9 then zdj (fs.headD noF) n true t.neg
  else if t.kind=10 then zcR l
  else if t.kind=11 then zjG l
  else noF
end

section
open Go.RowKit
def zmE (k:Nat) (l:List Nat):Prop:=∀(t:Tr) (A:Option Addr) (c:Nat) (w:World),Tr.In w k t->zeP k t->zah k t=true->zdf w A l.length l->l.length<=10 ->
 Calls Tryz.prog 20 #[.agg t.cs.toArray,.slice A l.length c] w (zcq w (l.length+1) (zae l k t))
theorem zlu:(Tryz.prog.info? 36).map (fun i=>(i.zero,i.size,i.bytes))=some (some (.slice none 0 0),1,24):=by kernel_rfl
def zcr (F:Nat->Nat->Bool) (i i' j':Nat):Bool:=if i'<i then F i' j' else false
theorem zet (F:Nat->Nat->Bool) (i' j':Nat):zcr F 0 i' j'=noF i' j':=by unfold zcr;rw[if_neg (jD _)];rfl
theorem zbY {F:Nat->Nat->Bool} {i c:Nat} {v:Bool} (hF:∀j,j≠c->F i j=false) (hv:v=F i c) (i' j':Nat):(if i'=i/\j'=c then v else zcr F i i' j')=zcr F (i+1) i' j':=by
 by_cases e:i'=i/\j'=c
 ·obtain ⟨rfl,rfl⟩:=e
  rw[if_pos ⟨rfl,rfl⟩,hv]
  unfold zcr
  rw[if_pos (by omega)]
 ·rw[if_neg e]
  unfold zcr
  by_cases c1:i'<i
  ·rw[if_pos c1,if_pos (by omega)]
  ·rw[if_neg c1]
   by_cases c2:i'=i
   ·subst c2
    rw[if_pos (by omega),hF j' (fun q=>e ⟨rfl,q⟩)]
   ·rw[if_neg (by omega)]
theorem zhr {F:Nat->Nat->Bool} {m i' j':Nat} (h:i'<m):zcr F m i' j'=F i' j':=by unfold zcr;rw[if_pos h]
theorem zgy {l:List Nat} {i j:Nat} (h:j≠i):zcR l i j=false:=by unfold zcR;rw[qE (fun q=>h q.symm),yC]
theorem zjH {l:List Nat} {i j:Nat} (h:j≠i):zjG l i j=false:=by unfold zjG;rw[qE (fun q=>h q.symm),yC]
theorem zoO {s:St} {l:List Nat} {i j:Nat} (h:j≠i+1):zbL s l i j=false:=by unfold zbL;rw[qE (fun q=>h q.1),yC]
theorem zrn {l:List Nat}:true=zcR l 0 0:=rfl
theorem zkq {l:List Nat} {i m x:Nat} {v:Bool} (hm:i=m+1) (hx:(l[m]?).getD 0=x) (hv:v=decide (x=10)):v=zcR l i i:=by
 subst hm;unfold zcR;rw[qD rfl,jS,qE (by omega),gK,show m+1-1=m from rfl,hx];exact hv
theorem zoP {l:List Nat} {i:Nat} (h:i=l.length):true=zjG l i i:=by unfold zjG;rw[qD rfl,qD h];rfl
theorem zqG {l:List Nat} {i x:Nat} {v:Bool} (hi:i<l.length) (hx:(l[i]?).getD 0=x) (hv:v=decide (x=10)):v=zjG l i i:=by
 unfold zjG;rw[qD rfl,jS,qE (by omega),gK,hx];exact hv
theorem zro {s:St} {l:List Nat} {i x:Nat} {v:Bool} (hi:i<l.length) (hx:(l[i]?).getD 0=x) (hv:v=s.has x):v=zbL s l i (i+1):=by
 unfold zbL;rw[qD ⟨rfl,hi⟩,jS,hx];exact hv
theorem zmF {s:St} {l:List Nat} {i j:Nat} (h:l.length<=i):zbL s l i j=false:=by unfold zbL;rw[qE (fun q=>by omega),yC]
theorem zoQ {w:World} {g h:Nat} {s t:TypeId} {cs ds:Array Value} (hg:At w g s cs) (hh:At w h t ds) (hne:s≠t):g≠h:=fun e=>by
 subst e
 unfold At at hg hh
 rw[hg] at hh
 injection hh with hh
 injection hh with _ h2 _
 exact hne h2
theorem zbl (n:Nat) (hn:n<=1000) (x:Int) (hx:x=(n:Int)) (w:World):Calls Tryz.prog 28 #[.int .i64 x] w (zcq w n noF):=by
 subst hx
 refine (zcQ n hn w).mono ?_
 rintro e w' ⟨rfl,h,hb⟩
 exact ⟨_,_,rfl,h,hb⟩
theorem zmG (n:Nat) (hn:n<=1000) (x:Int) (hx:x=(n:Int)) (w:World):Calls Tryz.prog 29 #[.int .i64 x] w (zcq w n eqF):=by
 subst hx
 exact zmB n hn w
section
variable {k n:Nat} {l:List Nat} {t:Tr}
theorem zrp (hk:t.kind=0) (_:n=l.length+1):zae l (k+1) t=noF:=by unfold zae;simp[hk]
theorem zrq (hk:t.kind=1) (_:n=l.length+1):zae l (k+1) t=eqF:=by unfold zae;simp[hk]
theorem zrr (hk:t.kind=2) (_:n=l.length+1):zae l (k+1) t=zbL t.set l:=by unfold zae;simp[hk]
theorem zrs (hk:t.kind=3) (hn:n=l.length+1):zae l (k+1) t=(t.parts.map (zae l k)).foldl (fun f g=>zaF f g n) eqF:=by subst hn;unfold zae;simp[hk]
theorem zrt (hk:t.kind=4) (_:n=l.length+1):zae l (k+1) t=(t.parts.map (zae l k)).foldl (fun f g i j=>f i j||g i j) noF:=by unfold zae;simp[hk]
theorem zru (hk:t.kind=5) (_:n=l.length+1):zae l (k+1) t=(t.parts.map (zae l k)).foldl (fun f g i j=>f i j&&g i j) (zaW noF):=by unfold zae;simp[hk]
theorem zrv (hk:t.kind=6) (_:n=l.length+1):zae l (k+1) t=zaW ((t.parts.map (zae l k)).headD noF):=by unfold zae;simp[hk]
theorem zrw (hk:t.kind=7) (hn:n=l.length+1):zae l (k+1) t=zcI ((t.parts.map (zae l k)).headD noF) n t.lo.toNat t.hi:=by subst hn;unfold zae;simp[hk]
theorem zrx (hk:t.kind=8) (hn:n=l.length+1):zae l (k+1) t=zdj ((t.parts.map (zae l k)).headD noF) n false t.neg:=by subst hn;unfold zae;simp[hk]
theorem zry (hk:t.kind=9) (hn:n=l.length+1):zae l (k+1) t=zdj ((t.parts.map (zae l k)).headD noF) n true t.neg:=by subst hn;unfold zae;simp[hk]
theorem zoR (hk:t.kind=10) (_:n=l.length+1):zae l (k+1) t=zcR l:=by unfold zae;simp[hk]
theorem zoS (hk:t.kind=11) (_:n=l.length+1):zae l (k+1) t=zjG l:=by unfold zae;simp[hk]
end
end

section
open Go.RowKit
structure Nd where
 kind:Int
 set:St
 a:Int
 b:Int
 neg:Bool
def Nd.cs (x:Nd):List Value:=[.int .i64 x.kind,.int .u64 x.set.w0,.int .u64 x.set.w1,.int .u64 x.set.w2,.int .u64 x.set.w3,.int .i64 x.a,.int .i64 x.b,.bool x.neg]
theorem Nd.cs_length (x:Nd):x.cs.length=8:=rfl
theorem Nd.one (x:Nd):x.cs.toArray.all (·.oneCell')=true:=by simp[Nd.cs,Value.oneCell']
def Nd.zero:Nd:=⟨0,⟨0,0,0,0⟩,0,0,false⟩
def zaQ (l:List Nd) (j:Nat):Nd:=(l[j]?).getD Nd.zero
theorem zjI {l:List Nd} {j:Nat} (h:j<l.length):zaQ l j=l[j]:=by unfold zaQ;rw[qI h];rfl
def zuE (w:World) (v:Value) (l:List Nd):Prop :=
 ∃A cap,v=.slice A l.length cap/\l.length<=9223372036854775807/\(0<l.length->∃b off,A=some ⟨b,off,none⟩/\b<w.heap.size/\∀(j:Nat) (h:j<l.length),w.rangeAt b (off+j*8) (zaQ l j).cs)
def zaD (w:World) (x:Nd):World:=(w.alloc (.cells #[.int .i64 0,.int .u64 0,.int .u64 0,.int .u64 0,.int .u64 0,.int .i64 0,.int .i64 0,.bool false] 61)).setRow w.heap.size x.cs.toArray
theorem zbq (w:World) (x:Nd):At (zaD w x) w.heap.size 61 x.cs.toArray:=At.row (At.new w 61 Nd.zero.cs.toArray) _
theorem zaN (w:World) (x:Nd):Below w.heap.size w (zaD w x):=zdD (zqb) zqn _
theorem Nd.cells {w:World} {g:Nat} {t:TypeId} {x:Nd} (h:At w g t x.cs.toArray):w.cell? ⟨g,0,none⟩=some (.int .i64 x.kind)/\w.cell? ⟨g,1,none⟩=some (.int .u64 x.set.w0)/\w.cell? ⟨g,2,none⟩=some (.int .u64 x.set.w1)/\w.cell? ⟨g,3,none⟩=some (.int .u64 x.set.w2)/\w.cell? ⟨g,4,none⟩=some (.int .u64 x.set.w3)/\w.cell? ⟨g,5,none⟩=some (.int .i64 x.a)/\w.cell? ⟨g,6,none⟩=some (.int .i64 x.b)/\w.cell? ⟨g,7,none⟩=some (.bool x.neg) :=
 ⟨At.cell h 0,At.cell h 1,At.cell h 2,At.cell h 3,At.cell h 4,At.cell h 5,At.cell h 6,At.cell h 7⟩
def zoT (bits:List Nat) (a:Nat) (neg:Bool) (i j:Nat):Bool:=decide (i=j)&&(decide (((bits[i]?).getD 0) >>> a % 2=1) != neg)
def fAt (fs:List (Nat->Nat->Bool)) (k:Int):Nat->Nat->Bool:=(fs[k.toNat]?).getD noF
def zdB (l bits:List Nat) (fs:List (Nat->Nat->Bool)) (x:Nd):Nat->Nat->Bool :=
 if x.kind=1 then eqF
 else if x.kind=2 then zbL x.set l
 else if x.kind=3 then zaF (fAt fs x.a) (fAt fs x.b) (l.length+1)
 else if x.kind=4 then fun i j=>fAt fs x.a i j||fAt fs x.b i j
 else if x.kind=5 then fun i j=>fAt fs x.a i j&&fAt fs x.b i j
 else if x.kind=6 then zaW (fAt fs x.a)
 else if x.kind=7 then zbp (fAt fs x.a) (l.length+1) (l.length+1)
 else if x.kind=8 then zoT bits x.a.toNat x.neg
 else noF
def zb5 (l bits:List Nat) (ns:List Nd):Nat->List (Nat->Nat->Bool)
 | 0=>[]
 | j+1=>zb5 l bits ns j++[zdB l bits (zb5 l bits ns j) (zaQ ns j)]
theorem zcz (l bits:List Nat) (ns:List Nd):∀j,(zb5 l bits ns j).length=j
 | 0=>rfl
 | j+1=>by
  show (zb5 l bits ns j++[_]).length=j+1
  rw[qF,zcz l bits ns j];rfl
def zuv (x:Nd) (j:Nat):Prop :=
 x.set.Ok/\(x.kind=3\/x.kind=4\/x.kind=5->0<=x.a/\x.a<j/\0<=x.b/\x.b<j)/\(x.kind=6\/x.kind=7->0<=x.a/\x.a<j)/\(x.kind=8->0<=x.a/\x.a<4)
end

section
open Go.RowKit
def zal (x:Int):Int:=if 1001<x then 1001 else x
def zb3 (l:List Int):Int:=l.foldl (fun n x=>zal (n+x)) 0
def zbr (x:Int):Int:=if 2000<x then 2000 else x
def zbs (lo:Int):Int:=if 1<lo then zbr lo else 1
def zaC (lo hi:Int):Int:=if zbs lo<hi then zbr hi else zbs lo
def zam:Nat->Tr->Int
 | 0,_=>0
 | k+1,t=>zal ((if t.kind=7 then zb3 (t.parts.map (zam k))*zaC t.lo t.hi else zb3 (t.parts.map (zam k)))+1)
theorem zd0 (x:Int):zal x<=1001:=by unfold zal;split<;>omega
theorem zd1 (x:Int) (h:0<=x):0<=zal x:=by unfold zal;split<;>omega
theorem zeT (l:List Int) (x:Int):zb3 (l++[x])=zal (zb3 l+x):=by unfold zb3;rw[List.foldl_append];rfl
theorem zrz (l:List Int):zb3 l<=1001:=by
 unfold zb3
 have:∀a:Int,a<=1001->l.foldl (fun n x=>zal (n+x)) a<=1001:=by
  induction l with
  | nil=>exact fun a h=>h
  | cons x r ih=>intro a _;rw[xS];exact ih _ (zd0 _)
 exact this 0 (by omega)
theorem zeu (l:List Int) (h:∀x∈l,0<=x):0<=zb3 l:=by
 unfold zb3
 have:∀a:Int,0<=a->0<=l.foldl (fun n x=>zal (n+x)) a:=by
  induction l with
  | nil=>exact fun a h=>h
  | cons x r ih =>
   intro a ha
   rw[xS]
   exact ih (fun y hy=>h y (qX _ hy)) _ (zd1 _ (by have:=h x (by simp);omega))
 exact this 0 (by omega)
theorem zhs (lo:Int):1<=zbs lo:=by unfold zbs zbr;split<;>(try split)<;>omega
theorem zht (lo:Int):zbs lo<=2000:=by unfold zbs zbr;split<;>(try split)<;>omega
theorem zdF (lo hi:Int):1<=zaC lo hi:=by
 have:=zhs lo
 unfold zaC zbr;split<;>(try split)<;>omega
theorem zmH (lo hi:Int):zaC lo hi<=2000:=by
 have:=zht lo
 unfold zaC zbr;split<;>(try split)<;>omega
theorem zcA:∀(k:Nat) (t:Tr),0<=zam k t
 | 0,_=>gE _
 | k+1,t=>by
  have h:0<=zb3 (t.parts.map (zam k)):=zeu _ (by
   intro x hx
   rw[yN] at hx
   obtain ⟨p,_,rfl⟩:=hx
   exact zcA k p)
  have ht:=zdF t.lo t.hi
  refine zd1 _ ?_
  split
  ·have:=Int.mul_nonneg h (show (0:Int)<=zaC t.lo t.hi by omega);omega
  ·omega
theorem zoU (k:Nat) (t:Tr):zam k t<=1001:=by
 cases k with
 | zero=>show (0:Int)<=1001;omega
 | succ k=>exact zd0 _
def zb6 (k:Nat) (t:Tr) (j:Nat):Int:=zb3 ((t.parts.take j).map (zam k))
theorem zjJ (k:Nat) (t:Tr):zb6 k t 0=0:=rfl
theorem zjK (k:Nat) (t:Tr) (j:Nat) (h:j<t.parts.length):zb6 k t (j+1)=zal (zb6 k t j+zam k t.parts[j]):=by
 unfold zb6;rw[qW h,jE,List.map_singleton,zeT]
theorem zmI (k:Nat) (t:Tr) (j:Nat):zb6 k t j<=1001:=zrz _
theorem zeU (k:Nat) (t:Tr) (j:Nat):0<=zb6 k t j:=zeu _ (by
 intro x hx
 rw[yN] at hx
 obtain ⟨p,_,rfl⟩:=hx
 exact zcA k p)
theorem zdG (k:Nat) (t:Tr) (h:t.kind=7):zal (zb6 k t t.parts.length*zaC t.lo t.hi+1)=zam (k+1) t:=by
 unfold zb6;rw[qQ];show _=zal (_+1);rw[if_pos h]
theorem zdH (k:Nat) (t:Tr) (h:¬t.kind=7):zal (zb6 k t t.parts.length+1)=zam (k+1) t:=by
 unfold zb6;rw[qQ];show _=zal (_+1);rw[if_neg h]
theorem zaw {x:Int} (h:1001<x):zal x=1001:=by unfold zal;rw[if_pos h]
theorem zaB {x:Int} (h:¬1001<x):zal x=x:=by unfold zal;rw[if_neg h]
theorem zbh {x T:Int} (h0:0<=x) (h1:x<=1001) (h2:1<=T) (h3:T<=2000):0<=x*T/\x*T<=2002000:=by
 have a:=Int.mul_nonneg h0 (show (0:Int)<=T by omega)
 have b:=Int.mul_le_mul h1 h3 (by omega) (by omega:(0:Int)<=1001)
 exact ⟨a,by omega⟩
theorem zaG {x:Int} (h:I64 x):wrap64 x=x:=by unfold wrap64;unfold I64 at h;omega
theorem zaL {k:IntKind} {a b:Int} (h:a=b):Ending.returned (.int k a)=.returned (.int k b):=by rw[h]
end

section
open Go.RowKit
def Tr.blank:Tr:=.node 0 ⟨0,0,0,0⟩ none 0 0 [] 0 0 false
def Tr.strip:Nat->Tr->Tr
 | 0,_=>Tr.blank
 | k+1,t=>.node t.kind t.set none t.parts.length 0 (t.parts.map (Tr.strip k)) t.lo t.hi t.neg
theorem zdk {k:Nat} {a b:Tr} (h:a.strip (k+1)=b.strip (k+1)):a.kind=b.kind/\a.set=b.set/\a.lo=b.lo/\a.hi=b.hi/\a.neg=b.neg/\a.parts.length=b.parts.length/\a.parts.map (Tr.strip k)=b.parts.map (Tr.strip k):=by
 have h':Tr.node a.kind a.set none a.parts.length 0 (a.parts.map (Tr.strip k)) a.lo a.hi a.neg=Tr.node b.kind b.set none b.parts.length 0 (b.parts.map (Tr.strip k)) b.lo b.hi b.neg:=h
 injection h' with h1 h2 _ h4 _ h6 h7 h8 h9
 exact ⟨h1,h2,h7,h8,h9,h4,h6⟩
theorem ziF {k j:Nat} {m:Int} {t:Tr} (h:zbj (k+1) m t<=m) (hj:j<t.parts.length):1<=m/\zbj k (m-1) t.parts[j]<=m-1:=by
 have h':(if m<1 then 1 else 1+zgd (t.parts.map (zbj k (m-1))))<=m:=h
 have hm:1<=m:=by split at h'<;>omega
 rw[if_neg (by omega)] at h'
 refine ⟨hm,?_⟩
 have h1:∀(l:List Int) (x:Int),x∈l->x<=zgd l:=by
  intro l x hx
  unfold zgd
  have:∀(l:List Int) (a x:Int),(x∈l\/x<=a)->x<=l.foldl max a:=by
   intro l
   induction l with
   | nil=>intro a x h;rcases h with h | h;cases h;exact h
   | cons y r ih =>
    intro a x h
    rw[xS]
    refine ih _ _ ?_
    rcases h with h | h
    ·rcases List.mem_cons.1 h with rfl | h
     ·exact Or.inr (by omega)
     ·exact Or.inl h
    ·exact Or.inr (by omega)
  exact this l 0 x (Or.inl hx)
 have h2:=h1 (t.parts.map (zbj k (m-1))) (zbj k (m-1) t.parts[j]) (List.mem_map.2 ⟨_,qG hj,rfl⟩)
 omega
theorem zlv {a b:Tr} (h1:a.kind=b.kind) (h2:a.set=b.set) (h3:a.lo=b.lo) (h4:a.hi=b.hi) (h5:a.neg=b.neg) (h6:a.parts.length=b.parts.length):zch a=zch b:=by
 unfold zch
 apply decide_eq_decide.2
 unfold zge zba
 rw[h1,h2,h3,h4,h5,h6]
theorem zeV {α:Type} {k:Nat} {f:Tr->α} (hf:∀a b:Tr,a.strip k=b.strip k->f a=f b) {l m:List Tr} (h:l.map (Tr.strip k)=m.map (Tr.strip k)):l.map f=m.map f:=by
 induction l generalizing m with
 | nil=>cases m with
  | nil=>rfl
  | cons=>simp at h
 | cons x r ih=>cases m with
  | nil=>simp at h
  | cons y s =>
   simp only[jW,List.cons.injEq] at h ⊢
   exact ⟨hf _ _ h.1,ih h.2⟩
theorem zmJ (f:Tr->Bool) (l:List Tr):l.all f=(l.map f).all id:=by rw[List.all_map];rfl
theorem zeW:∀(k:Nat) (a b:Tr),a.strip k=b.strip k->zah k a=zah k b
 | 0,_,_,_=>rfl
 | k+1,a,b,h=>by
  obtain ⟨e1,e2,e3,e4,e5,e6,e7⟩:=zdk h
  show (zch a&&a.parts.all (zah k))=(zch b&&b.parts.all (zah k))
  rw[zlv e1 e2 e3 e4 e5 e6,zmJ,zmJ,zeV (zeW k) e7]
theorem zgz:∀(k:Nat) (a b:Tr),a.strip k=b.strip k->zam k a=zam k b
 | 0,_,_,_=>rfl
 | k+1,a,b,h=>by
  obtain ⟨e1,e2,e3,e4,e5,e6,e7⟩:=zdk h
  show zal (_+1)=zal (_+1)
  rw[zeV (zgz k) e7,e1,e3,e4]
end

section
open Go.RowKit
abbrev Tbl:=Nat->Nat->Bool
def Eqv (n:Nat) (f g:Tbl):Prop:=∀i j,i<n->j<n->f i j=g i j
theorem Eqv.refl (n:Nat) (f:Tbl):Eqv n f f:=fun _ _ _ _=>rfl
theorem Eqv.symm {n:Nat} {f g:Tbl} (h:Eqv n f g):Eqv n g f:=fun i j hi hj=>(h i j hi hj).symm
theorem Eqv.trans {n:Nat} {f g h:Tbl} (a:Eqv n f g) (b:Eqv n g h):Eqv n f h:=fun i j hi hj=>(a i j hi hj).trans (b i j hi hj)
theorem zao (f g:Tbl) (n i j:Nat):zaF f g n i j=true↔∃m,m<n/\i<=m/\m<=j/\f i m=true/\g m j=true:=by
 unfold zaF zbv
 rw[jI]
 constructor
 ·rintro ⟨m,hm,h⟩
  rw[qR,qR,decide_eq_true_iff] at h
  exact ⟨m,List.mem_range.1 hm,h.1.1,h.1.2,h.2.1,h.2.2⟩
 ·rintro ⟨m,hm,h1,h2,h3,h4⟩
  exact ⟨m,List.mem_range.2 hm,by rw[h3,h4,qD ⟨h1,h2⟩];rfl⟩
theorem zbU {a b:Bool} (h:a=true↔b=true):a=b:=by cases a<;>cases b<;>simp_all
theorem zbM {n:Nat} {f f' g g':Tbl} (hf:Eqv n f f') (hg:Eqv n g g'):Eqv n (zaF f g n) (zaF f' g' n):=fun i j hi hj=>zbU (by
 rw[zao,zao]
 constructor
 ·rintro ⟨m,h0,h1,h2,h3,h4⟩
  exact ⟨m,h0,h1,h2,by rw[<-hf i m hi h0];exact h3,by rw[<-hg m j h0 hj];exact h4⟩
 ·rintro ⟨m,h0,h1,h2,h3,h4⟩
  exact ⟨m,h0,h1,h2,by rw[hf i m hi h0];exact h3,by rw[hg m j h0 hj];exact h4⟩)
theorem zfB (n:Nat) (f g h:Tbl):Eqv n (zaF (zaF f g n) h n) (zaF f (zaF g h n) n):=fun i j hi hj=>zbU (by
 rw[zao,zao]
 constructor
 ·rintro ⟨k,k0,k1,k2,k3,k4⟩
  obtain ⟨m,m0,m1,m2,m3,m4⟩:=(zao _ _ _ _ _).1 k3
  exact ⟨m,m0,m1,by omega,m3,(zao _ _ _ _ _).2 ⟨k,k0,m2,k2,m4,k4⟩⟩
 ·rintro ⟨m,m0,m1,m2,m3,m4⟩
  obtain ⟨k,k0,k1,k2,k3,k4⟩:=(zao _ _ _ _ _).1 m4
  exact ⟨k,k0,by omega,k2,(zao _ _ _ _ _).2 ⟨m,m0,m1,k1,m3,k3⟩,k4⟩)
theorem zaR (i j:Nat):eqF i j=true↔i=j:=by unfold eqF;exact decide_eq_true_iff
theorem zbD (n:Nat) (f:Tbl):Eqv n (zaF eqF f n) (zaF f eqF n):=fun i j hi hj=>zbU (by
 rw[zao,zao]
 constructor
 ·rintro ⟨m,m0,m1,m2,m3,m4⟩
  obtain rfl:=(zaR _ _).1 m3
  exact ⟨j,hj,by omega,qL _,m4,(zaR _ _).2 rfl⟩
 ·rintro ⟨m,m0,m1,m2,m3,m4⟩
  obtain rfl:=(zaR _ _).1 m4
  exact ⟨i,hi,qL _,by omega,(zaR _ _).2 rfl,m3⟩)
theorem zoV {n:Nat} {f f' g g':Tbl} (h:Eqv n f f') (h':Eqv n g g'):Eqv n (fun i j=>f i j||g i j) (fun i j=>f' i j||g' i j):=fun i j hi hj=>by
 show (_||_)=(_||_);rw[h i j hi hj,h' i j hi hj]
theorem zgA {n:Nat} {f g:Tbl} (h:Eqv n f g):∀m,Eqv n (zbp f n m) (zbp g n m)
 | 0=>Eqv.refl _ _
 | m+1=>zoV (zgA h m) (zbM (zgA h m) h)
theorem zgB (l:List Nat):∀(k:Nat) (a b:Tr),a.strip k=b.strip k->zae l k a=zae l k b
 | 0,_,_,_=>rfl
 | k+1,a,b,h=>by
  obtain ⟨e1,e2,e3,e4,e5,e6,e7⟩:=zdk h
  unfold zae
  rw[zeV (zgB l k) e7,e1,e2,e3,e4,e5]
end

section
open Go.RowKit
theorem zeX (l bits:List Nat) (ns:List Nd) (a j:Nat) (ha:a<j):∀m,j<=m->(zb5 l bits ns m)[a]?=(zb5 l bits ns j)[a]?
 | 0,h=>by omega
 | m+1,h=>by
  by_cases e:j=m+1
  ·rw[e]
  ·show (zb5 l bits ns m++[_])[a]?=_
   rw[jP (by rw[zcz];omega)]
   exact zeX l bits ns a j ha m (by omega)
theorem zjL (l bits:List Nat) {fs gs:List (Nat->Nat->Bool)} {x:Nd} (ha:(x.kind=3\/x.kind=4\/x.kind=5)\/(x.kind=6\/x.kind=7)->fAt fs x.a=fAt gs x.a) (hb:x.kind=3\/x.kind=4\/x.kind=5->fAt fs x.b=fAt gs x.b):zdB l bits fs x=zdB l bits gs x:=by
 unfold zdB
 by_cases h1:x.kind=1
 ·rw[if_pos h1,if_pos h1]
 rw[if_neg h1,if_neg h1]
 by_cases h2:x.kind=2
 ·rw[if_pos h2,if_pos h2]
 rw[if_neg h2,if_neg h2]
 by_cases h3:x.kind=3
 ·rw[if_pos h3,if_pos h3,ha (Or.inl (Or.inl h3)),hb (Or.inl h3)]
 rw[if_neg h3,if_neg h3]
 by_cases h4:x.kind=4
 ·rw[if_pos h4,if_pos h4,ha (Or.inl (Or.inr (Or.inl h4))),hb (Or.inr (Or.inl h4))]
 rw[if_neg h4,if_neg h4]
 by_cases h5:x.kind=5
 ·rw[if_pos h5,if_pos h5,ha (Or.inl (Or.inr (Or.inr h5))),hb (Or.inr (Or.inr h5))]
 rw[if_neg h5,if_neg h5]
 by_cases h6:x.kind=6
 ·rw[if_pos h6,if_pos h6,ha (Or.inr (Or.inl h6))]
 rw[if_neg h6,if_neg h6]
 by_cases h7:x.kind=7
 ·rw[if_pos h7,if_pos h7,ha (Or.inr (Or.inr h7))]
 rw[if_neg h7,if_neg h7]
def zai (l bits:List Nat) (ns:List Nd) (i:Int):Nat->Nat->Bool:=fAt (zb5 l bits ns ns.length) i
theorem zd2 (l bits:List Nat) (ns:List Nd) (a:Int) (j:Nat) (h0:0<=a) (h:a<j) (hj:j<=ns.length):fAt (zb5 l bits ns j) a=zai l bits ns a:=by
 unfold zai fAt
 rw[zeX l bits ns a.toNat j (by omega) ns.length hj]
theorem zoW (l bits:List Nat) (ns:List Nd) (hok:∀j,j<ns.length->zuv (zaQ ns j) j) (i:Nat) (hi:i<ns.length):zai l bits ns i=zdB l bits (zb5 l bits ns ns.length) (zaQ ns i):=by
 have h1:zai l bits ns i=zdB l bits (zb5 l bits ns i) (zaQ ns i):=by
  rw[<-zd2 l bits ns i (i+1) (by omega) (by omega) (by omega)]
  unfold fAt
  rw[xO]
  show ((zb5 l bits ns i++[_])[i]?).getD noF=_
  rw[yK (by rw[zcz];omega),zcz,kK]
  rfl
 rw[h1]
 have ho:=hok i hi
 refine zjL l bits (fun h=>?_) (fun h=>?_)
 ·have ha:0<=(zaQ ns i).a/\(zaQ ns i).a<i:=by
   rcases h with h | h
   ·exact ⟨(ho.2.1 h).1,(ho.2.1 h).2.1⟩
   ·exact ho.2.2.1 h
  exact zd2 l bits ns _ i ha.1 ha.2 (by omega)
 ·have hb:=(ho.2.1 h).2.2
  exact zd2 l bits ns _ i hb.1 hb.2 (by omega)
end

section
open Go.RowKit
theorem zf7 (w:World) (s t:St) (v:Bool) (h:s.eqb t=v) :
  (Op.equalIn 10000 46 (.agg #[.int .u64 s.w0,.int .u64 s.w1,.int .u64 s.w2,.int .u64 s.w3]) (.agg #[.int .u64 t.w0,.int .u64 t.w1,.int .u64 t.w2,.int .u64 t.w3])).run Tryz.prog w=.ok v w:=by
 rw[<-h]
 exact zhq (d:=9998) Tryz.underlying46 (by kernel_rfl) Tryz.underlying44 (by kernel_rfl) w s t
end
end Go.Proofs.YtdmodhnhldbpnaaGreat
