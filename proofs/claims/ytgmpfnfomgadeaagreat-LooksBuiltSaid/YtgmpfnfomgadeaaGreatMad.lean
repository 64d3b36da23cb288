/- Joined: Look, Tabs, SpansAt, Node, SetEq, NodeEq, NodeRight. -/
import Derived.Test.YtgmpfnfomgadeaaGreatProg
import Derived.Test.YtgmpfnfomgadeaaGreatMaa
import Derived.Test.YtgmpfnfomgadeaaGreatMab
import Derived.BigRegion
import Derived.BigQuiet
import Derived.Test.YtgmpfnfomgadeaaGreatMac
import Derived.Laws.OwnMore
import Derived.Deep.AppendLies
import Derived.StillTailTactics
import Derived.Deep.QuietTactic
/- What the reference's look answers. -/
set_option linter.unusedVariables false
set_option maxHeartbeats 4000000
set_option maxRecDepth 100000
namespace Go.Proofs.YtgmpfnfomgadeaaGreat
open Go.RowKit
def isTo (fa:Nat→Nat→Bool) (back:Bool) (i m:Nat):Bool:=(List.range m).any (fun k=>bif back then fa k i else fa i k)
def lookF (fa:Nat→Nat→Bool) (n:Nat) (back neg:Bool) (i j:Nat):Bool:=if i=j then isTo fa back i n != neg else false
def lookTo (fa:Nat→Nat→Bool) (n:Nat) (back neg:Bool) (i i' j':Nat):Bool:=if i'<i then lookF fa n back neg i' j' else false
theorem isTo_zero {fa:Nat→Nat→Bool} {back:Bool} {i:Nat}:isTo fa back i 0=false:=rfl
theorem isTo_succ8 {fa:Nat→Nat→Bool} {i k:Nat}:isTo fa false i (k+1)=(isTo fa false i k||fa i k):=by unfold isTo;rw[List.range_succ,List.any_append];simp
theorem isTo_succ9 {fa:Nat→Nat→Bool} {i k:Nat}:isTo fa true i (k+1)=(isTo fa true i k||fa k i):=by unfold isTo;rw[List.range_succ,List.any_append];simp
theorem lookTo_step {fa:Nat→Nat→Bool} {n:Nat} {back neg:Bool} {i i' j':Nat}:(if i'=i∧j'=i then isTo fa back i n != neg else lookTo fa n back neg i i' j')=lookTo fa n back neg (i+1) i' j':=by
  by_cases e:i'=i∧j'=i
  · obtain ⟨rfl,rfl⟩:=e
    unfold lookTo lookF
    rw[if_pos ⟨rfl,rfl⟩,if_pos (by omega),if_pos rfl]
  · rw[if_neg e]
    unfold lookTo
    by_cases c:i'<i
    · rw[if_pos c,if_pos (by omega)]
    · rw[if_neg c]
      by_cases c2:i'=i
      · subst c2
        rw[if_pos (by omega)]
        unfold lookF
        rw[if_neg (fun q=>e ⟨rfl,q.symm⟩)]
      · rw[if_neg (by omega)]
theorem refLook8 (n ga:Nat) (fa:Nat→Nat→Bool) (t:Tr) (hn:n≤1000) (hk:t.kind=8) (w:World) (ha:TIn w ga n fa) :
    Calls Tryz.prog 33 #[.agg t.cs.toArray,.slice (some ⟨ga,0,none⟩) n n] w (Tabled w n (lookF fa n false t.neg)):=by
  obtain ⟨ra,ha⟩:=ha
  have HA:=Lib.hid ha
  clear ha
  have hA0:At (w.alloc (Obj.cells t.cs.toArray 27)) w.heap.size 27 t.cs.toArray:=At.new _ _ _
  have hB0:Below w.heap.size w (w.alloc (Obj.cells t.cs.toArray 27)):=(Below.refl _ _).alloc (Nat.le_refl _) _
  have HK:=Lib.hid hk
  clear hk
  go_enter Tryz.func33,Tryz.ntmps33
  go_wp2_with fail
  refine (refBlank n hn _).mono ?_
  rintro e w1 ⟨rfl,ht1,hb1⟩
  have HAt:=Lib.hid (hA0.step hb1 rfl)
  have HB1:=Lib.hid (below_step hB0 hb1 rfl rfl rfl rfl)
  obtain ⟨g,hg⟩:∃g,g=(w.alloc (Obj.cells t.cs.toArray 27)).heap.size:=⟨_,rfl⟩
  obtain ⟨r,hr⟩:∃r:Nat→Nat,r=(fun i=>(w.alloc (Obj.cells t.cs.toArray 27)).heap.size+1+i):=⟨_,rfl⟩
  rw[←hr] at ht1
  clear hr
  have hgw:w.heap.size+1=g:=by rw[hg];simp
  have hT1:Hid (TabAt w1 51 4 (w.heap.size+1) g n r (lookTo fa n false t.neg 0)):=by
    have h2:=ht1.congr (f':=lookTo fa n false t.neg 0) (fun i j _ _=>by unfold lookTo;rw[if_neg (Nat.not_lt_zero _)])
    rw[←hg] at h2
    rw[hgw];exact h2
  clear ht1 hb1 hA0 hB0
  have HGW:=Lib.hid hgw
  try rw[←hg]
  try rw[hgw]
  clear hg hgw
  go_wp2_with fail
  go_loopw [14] (fun x wr=>∃i:Nat,i≤n∧x=.int .i64 i∧Hid (TabAt wr 51 4 (w.heap.size+1) g n r (lookTo fa n false t.neg i))∧Hid (At wr w.heap.size 27 t.cs.toArray)∧Hid (Below w.heap.size w wr)) (fun x _=>n-(intOf x).toNat)
  case atStart=>exact ⟨0,Nat.zero_le _,rfl,hT1,HAt,HB1⟩
  case round =>
    clear hT1 HAt HB1
    obtain ⟨i,hi,rfl,hT,hAt,hB⟩:=hrel
    by_cases hlt:i<n
    · have hd1:decide ((i:Int)<(n:Int))=true:=dec_t (by omega)
      have hd2:(i:Int)<(n:Int):=by omega
      have hi0:(0:Int)≤(i:Int):=by omega
      go_wp2_with fail
      have hA:=HA.out.next hB.out
      obtain ⟨c0,c5,c6,c7,c8⟩:=At.tr_cell hAt.out
      rw[HK.out] at c0
      clear c5 c6 c7
      go_loop [7,19] (fun is x=>∃k:Nat,k≤n∧x=.int .i64 k∧is=.bool (isTo fa false i k)) (fun _ x=>n-(intOf x).toNat)
      case atStart=>exact ⟨0,Nat.zero_le _,rfl,by rw[isTo_zero]⟩
      case round =>
        obtain ⟨k,hk,rfl,rfl⟩:=hrel
        obtain ⟨y,hy⟩:∃y:Bool,isTo fa false i k=y:=⟨_,rfl⟩
        rw[hy]
        have HY:=Lib.hid hy
        clear hy
        by_cases hltk:k<n
        · have q1:=hA.cellTop hlt
          have q2:=hA.cellRow hlt hltk
          obtain ⟨z,hz⟩:∃z:Bool,fa i k=z:=⟨_,rfl⟩
          rw[hz] at q2
          have HZ:=Lib.hid hz
          clear hz
          have hk0:(0:Int)≤(k:Int):=by omega
          have hkn:(k:Int)<(n:Int):=by omega
          cases y
          · cases z
            · go_wp2_with fail
              exact ⟨⟨k+1,by omega,by go_num,by rw[isTo_succ8,HY.out,HZ.out];rfl⟩,by simp[intOf];omega⟩
            · go_wp2_with fail
              exact ⟨⟨k+1,by omega,by go_num,by rw[isTo_succ8,HY.out,HZ.out];rfl⟩,by simp[intOf];omega⟩
          · go_wp2_with fail
            exact ⟨⟨k+1,by omega,by go_num,by rw[isTo_succ8,HY.out];rfl⟩,by simp[intOf];omega⟩
        · obtain rfl:k=n:=by omega
          have q5:=hT.out.cellTop hlt
          have q6:=hT.out.cellRow hlt hlt
          have q7:=hT.out.freeRow hlt i
          obtain ⟨old,hold⟩:∃v:Bool,lookTo fa k false t.neg i i i=v:=⟨_,rfl⟩
          rw[hold] at q6
          clear hold c0
          obtain ⟨ng,hng⟩:∃ng:Bool,t.neg=ng:=⟨_,rfl⟩
          rw[hng] at c8
          have HN:=Lib.hid hng
          clear hng hA
          go_wp2_with fail
          go_region
          go_wp2_with fail
          go_roundw
          case rel=>exact ⟨i+1,by omega,by go_num,Lib.hid (TabAt.drew ((hT.out.put i hlt (y != ng)).congr (fun i' j' _ _=>by rw[←lookTo_step,HY.out,HN.out]))),Lib.hid (At.drew (hAt.out.other (by have:=(hT.out.rlow i hlt).1;dsimp only;omega) _)),Lib.hid (Below.drew (hB.out.setCell (by have:=(hT.out.rlow i hlt).1;dsimp only;omega) _))⟩
          case measure=>simp[intOf];omega
    · obtain rfl:i=n:=by omega
      go_wp2_with fail
      go_ret
      exact ⟨g,r,rfl,(hT.out.lower (by omega)).congr (fun i' j' h _=>by unfold lookTo;rw[if_pos h]),hB.out⟩
theorem refLook9 (n ga:Nat) (fa:Nat→Nat→Bool) (t:Tr) (hn:n≤1000) (hk:t.kind=9) (w:World) (ha:TIn w ga n fa) :
    Calls Tryz.prog 33 #[.agg t.cs.toArray,.slice (some ⟨ga,0,none⟩) n n] w (Tabled w n (lookF fa n true t.neg)):=by
  obtain ⟨ra,ha⟩:=ha
  have HA:=Lib.hid ha
  clear ha
  have hA0:At (w.alloc (Obj.cells t.cs.toArray 27)) w.heap.size 27 t.cs.toArray:=At.new _ _ _
  have hB0:Below w.heap.size w (w.alloc (Obj.cells t.cs.toArray 27)):=(Below.refl _ _).alloc (Nat.le_refl _) _
  have HK:=Lib.hid hk
  clear hk
  go_enter Tryz.func33,Tryz.ntmps33
  go_wp2_with fail
  refine (refBlank n hn _).mono ?_
  rintro e w1 ⟨rfl,ht1,hb1⟩
  have HAt:=Lib.hid (hA0.step hb1 rfl)
  have HB1:=Lib.hid (below_step hB0 hb1 rfl rfl rfl rfl)
  obtain ⟨g,hg⟩:∃g,g=(w.alloc (Obj.cells t.cs.toArray 27)).heap.size:=⟨_,rfl⟩
  obtain ⟨r,hr⟩:∃r:Nat→Nat,r=(fun i=>(w.alloc (Obj.cells t.cs.toArray 27)).heap.size+1+i):=⟨_,rfl⟩
  rw[←hr] at ht1
  clear hr
  have hgw:w.heap.size+1=g:=by rw[hg];simp
  have hT1:Hid (TabAt w1 51 4 (w.heap.size+1) g n r (lookTo fa n true t.neg 0)):=by
    have h2:=ht1.congr (f':=lookTo fa n true t.neg 0) (fun i j _ _=>by unfold lookTo;rw[if_neg (Nat.not_lt_zero _)])
    rw[←hg] at h2
    rw[hgw];exact h2
  clear ht1 hb1 hA0 hB0
  have HGW:=Lib.hid hgw
  try rw[←hg]
  try rw[hgw]
  clear hg hgw
  go_wp2_with fail
  go_loopw [14] (fun x wr=>∃i:Nat,i≤n∧x=.int .i64 i∧Hid (TabAt wr 51 4 (w.heap.size+1) g n r (lookTo fa n true t.neg i))∧Hid (At wr w.heap.size 27 t.cs.toArray)∧Hid (Below w.heap.size w wr)) (fun x _=>n-(intOf x).toNat)
  case atStart=>exact ⟨0,Nat.zero_le _,rfl,hT1,HAt,HB1⟩
  case round =>
    clear hT1 HAt HB1
    obtain ⟨i,hi,rfl,hT,hAt,hB⟩:=hrel
    by_cases hlt:i<n
    · have hd1:decide ((i:Int)<(n:Int))=true:=dec_t (by omega)
      have hd2:(i:Int)<(n:Int):=by omega
      have hi0:(0:Int)≤(i:Int):=by omega
      go_wp2_with fail
      have hA:=HA.out.next hB.out
      obtain ⟨c0,c5,c6,c7,c8⟩:=At.tr_cell hAt.out
      rw[HK.out] at c0
      clear c5 c6 c7
      go_loop [7,19] (fun is x=>∃k:Nat,k≤n∧x=.int .i64 k∧is=.bool (isTo fa true i k)) (fun _ x=>n-(intOf x).toNat)
      case atStart=>exact ⟨0,Nat.zero_le _,rfl,by rw[isTo_zero]⟩
      case round =>
        obtain ⟨k,hk,rfl,rfl⟩:=hrel
        obtain ⟨y,hy⟩:∃y:Bool,isTo fa true i k=y:=⟨_,rfl⟩
        rw[hy]
        have HY:=Lib.hid hy
        clear hy
        by_cases hltk:k<n
        · have q1:=hA.cellTop hltk
          have q2:=hA.cellRow hltk hlt
          obtain ⟨z,hz⟩:∃z:Bool,fa k i=z:=⟨_,rfl⟩
          rw[hz] at q2
          have HZ:=Lib.hid hz
          clear hz
          have hk0:(0:Int)≤(k:Int):=by omega
          have hkn:(k:Int)<(n:Int):=by omega
          cases y
          · cases z
            · go_wp2_with fail
              exact ⟨⟨k+1,by omega,by go_num,by rw[isTo_succ9,HY.out,HZ.out];rfl⟩,by simp[intOf];omega⟩
            · go_wp2_with fail
              exact ⟨⟨k+1,by omega,by go_num,by rw[isTo_succ9,HY.out,HZ.out];rfl⟩,by simp[intOf];omega⟩
          · go_wp2_with fail
            exact ⟨⟨k+1,by omega,by go_num,by rw[isTo_succ9,HY.out];rfl⟩,by simp[intOf];omega⟩
        · obtain rfl:k=n:=by omega
          have q5:=hT.out.cellTop hlt
          have q6:=hT.out.cellRow hlt hlt
          have q7:=hT.out.freeRow hlt i
          obtain ⟨old,hold⟩:∃v:Bool,lookTo fa k true t.neg i i i=v:=⟨_,rfl⟩
          rw[hold] at q6
          clear hold c0
          obtain ⟨ng,hng⟩:∃ng:Bool,t.neg=ng:=⟨_,rfl⟩
          rw[hng] at c8
          have HN:=Lib.hid hng
          clear hng hA
          go_wp2_with fail
          go_region
          go_wp2_with fail
          go_roundw
          case rel=>exact ⟨i+1,by omega,by go_num,Lib.hid (TabAt.drew ((hT.out.put i hlt (y != ng)).congr (fun i' j' _ _=>by rw[←lookTo_step,HY.out,HN.out]))),Lib.hid (At.drew (hAt.out.other (by have:=(hT.out.rlow i hlt).1;dsimp only;omega) _)),Lib.hid (Below.drew (hB.out.setCell (by have:=(hT.out.rlow i hlt).1;dsimp only;omega) _))⟩
          case measure=>simp[intOf];omega
    · obtain rfl:i=n:=by omega
      go_wp2_with fail
      go_ret
      exact ⟨g,r,rfl,(hT.out.lower (by omega)).congr (fun i' j' h _=>by unfold lookTo;rw[if_pos h]),hB.out⟩
end Go.Proofs.YtgmpfnfomgadeaaGreat

/- A list of tables of the call's own; what a formed pattern matches, as a table. -/
namespace Go.Proofs.YtgmpfnfomgadeaaGreat
open Go.RowKit
theorem TabAt.grown {w w':World} {E B:TypeId} {base g n:Nat} {r:Nat→Nat} {f:Nat→Nat→Bool} {row:Option Nat} (h:TabAt w E B base g n r f) (hg:w.grownBy w' row) (h1:some g≠row) (h2:∀i,i<n→some (r i)≠row):TabAt w' E B base g n r f :=
  ⟨(hg.block g h.top.lt h1).trans h.top,h.low,fun i hi=>(hg.block (r i) (h.row i hi).lt (h2 i hi)).trans (h.row i hi),h.rlow,h.apart⟩
abbrev TG:=Nat×(Nat→Nat)
def tv (n:Nat) (p:TG):Value:=.slice (some ⟨p.1,0,none⟩) n n
structure TabsAt (w:World) (base:Nat) (v:Value) (n:Nat) (ts:List TG) (fs:List (Nat→Nat→Bool)):Prop where
  own:w.ownsRow base 44 1 v ts.length (ts.map (tv n))
  len:ts.length=fs.length
  tab:∀(j:Nat) (h:j<ts.length) (h':j<fs.length),TabAt w 51 4 base ts[j].1 n ts[j].2 fs[j]
  off:∀b,v.ownBlock=some b→∀p∈ts,p.1≠b∧∀i,i<n→p.2 i≠b
section
variable {w w' w0:World} {base n:Nat} {v:Value} {ts:List TG} {fs:List (Nat→Nat→Bool)}
theorem TabsAt.nil (w:World) (base n:Nat):TabsAt w base (.slice none 0 0) n [] [] :=
  ⟨World.ownsRow_nil w base _ 1,rfl,fun j h=>absurd h (Nat.not_lt_zero _),fun b _ p hp=>by cases hp⟩
theorem TabsAt.next (h:TabsAt w base v n ts fs) (hb:Below w.heap.size w w'):TabsAt w' base v n ts fs :=
  ⟨World.ownsRow.kept (row:=none) h.own (grown_none hb) (by cases hv:v.ownBlock<;>simp),h.len,fun j h1 h2=>(h.tab j h1 h2).next hb,h.off⟩
theorem TabsAt.cell {g cap m:Nat} (h:TabsAt w base (.slice (some ⟨g,0,none⟩) m cap) n ts fs) (j:Nat) (hj:j<ts.length):w.cell? ⟨g,j,none⟩=some (.slice (some ⟨ts[j].1,0,none⟩) n n):=by
  have hl:m=ts.length:=by
    rcases h.own.2 with ⟨hv,_⟩ | ⟨g',cap',cur,hv,_⟩
    · cases hv
    · injection hv
  subst hl
  rw[World.ownsRow.cellAt h.own j (by omega)]
  simp[hj,tv]
theorem TabsAt.form (h:TabsAt w base v n ts fs) (hn:0<ts.length):∃g cap,v=.slice (some ⟨g,0,none⟩) ts.length cap∧base≤g∧g<w.heap.size:=h.own.form hn
theorem TabsAt.len_form (h:TabsAt w base v n ts fs):∃A cap,v=.slice A ts.length cap:=by
  rcases h.own.2 with ⟨rfl,hn⟩ | ⟨g,cap,cur,rfl,_⟩
  · exact ⟨none,0,by rw[hn]⟩
  · exact ⟨_,_,rfl⟩
theorem TabsAt.push {g2:Nat} {r2:Nat→Nat} {f2:Nat→Nat→Bool} {g cap H:Nat} (h:TabsAt w base v n ts fs) (ht:TabAt w 51 4 base g2 n r2 f2)
    (hown:w'.ownsRow base 44 1 (.slice (some ⟨g,0,none⟩) (ts.length+1) cap) (ts.length+1) (ts.map (tv n)++[tv n (g2,r2)])) (hg:w.grownBy w' v.ownBlock)
    (hat:v.ownBlock=some g∨g=H) (hH:w.heap.size≤H) (hnew:∀b,v.ownBlock=some b→g2≠b∧∀i,i<n→r2 i≠b):TabsAt w' base (.slice (some ⟨g,0,none⟩) (ts.length+1) cap) n (ts++[(g2,r2)]) (fs++[f2]):=by
  have hkeep:∀(j:Nat) (h1:j<ts.length) (h2:j<fs.length),TabAt w' 51 4 base ts[j].1 n ts[j].2 fs[j]:=fun j h1 h2=>by
    refine (h.tab j h1 h2).grown hg ?_ ?_
    · intro e
      exact (h.off _ e.symm _ (List.getElem_mem h1)).1 rfl
    · intro i hi e
      exact (h.off _ e.symm _ (List.getElem_mem h1)).2 i hi rfl
  have hkeep2:TabAt w' 51 4 base g2 n r2 f2:=ht.grown hg (fun e=>(hnew _ e.symm).1 rfl) (fun i hi e=>(hnew _ e.symm).2 i hi rfl)
  refine ⟨?_,?_,?_,?_⟩
  · rw[List.length_append,List.map_append];exact hown
  · rw[List.length_append,List.length_append,h.len];rfl
  · intro j h1 h2
    by_cases hj:j<ts.length
    · have hj2:j<fs.length:=by have:=h.len;omega
      have e1:(ts++[(g2,r2)])[j]=ts[j]:=List.getElem_append_left hj
      have e2:(fs++[f2])[j]=fs[j]:=List.getElem_append_left hj2
      rw[e1,e2];exact hkeep j hj hj2
    · have hj1:j=ts.length:=by rw[List.length_append] at h1;simp at h1;omega
      subst hj1
      have e1:(ts++[(g2,r2)])[ts.length]=(g2,r2):=by simp
      have e2:(fs++[f2])[ts.length]'h2=f2:=by rw[List.getElem_append_right (by rw[h.len];exact Nat.le_refl _)];simp[h.len]
      rw[e1,e2];exact hkeep2
  · intro b hb p hp
    have hbg:g=b:=by simpa [Value.ownBlock] using hb
    subst hbg
    rcases hat with hat | rfl
    · rw[List.mem_append] at hp
      rcases hp with hp | hp
      · exact h.off _ hat p hp
      · have:p=(g2,r2):=by simpa using hp
        subst this
        exact hnew _ hat
    · have low:∀q:TG,(∃f,TabAt w 51 4 base q.1 n q.2 f)→q.1≠g∧∀i,i<n→q.2 i≠g:=fun q ⟨f,hq⟩=>⟨by have:=hq.top.lt;omega,fun i hi=>by have:=(hq.row i hi).lt;omega⟩
      rw[List.mem_append] at hp
      rcases hp with hp | hp
      · obtain ⟨j,hj,rfl⟩:=List.getElem_of_mem hp
        exact low _ ⟨_,h.tab j hj (by have:=h.len;omega)⟩
      · have:p=(g2,r2):=by simpa using hp
        subst this
        exact low _ ⟨_,ht⟩
end
def byteF (s:St) (l:List Nat) (i j:Nat):Bool:=decide (j=i+1∧i<l.length)&&s.has ((l[i]?).getD 0)
def beginF (l:List Nat) (i j:Nat):Bool:=decide (i=j)&&(decide (i=0)||decide ((l[i-1]?).getD 0=10))
def endF (l:List Nat) (i j:Nat):Bool:=decide (i=j)&&(decide (i=l.length)||decide ((l[i]?).getD 0=10))
def noF (_ _:Nat):Bool:=false
def spansS (l:List Nat):Nat→Tr→Nat→Nat→Bool
  | 0,_=>noF
  | k+1,t =>
    let n:=l.length+1
    let fs:=t.parts.map (spansS l k)
    if t.kind=1 then eqF
    else if t.kind=2 then byteF t.set l
    else if t.kind=3 then fs.foldl (fun f g=>thenF f g n) eqF
    else if t.kind=4 then fs.foldl (fun f g i j=>f i j||g i j) noF
    else if t.kind=5 then fs.foldl (fun f g i j=>f i j&&g i j) (otherF noF)
    else if t.kind=6 then otherF (fs.headD noF)
    else if t.kind=7 then timesT (fs.headD noF) n t.lo.toNat t.hi
    else if t.kind=8 then lookF (fs.headD noF) n false t.neg
    else if t.kind=9 then lookF (fs.headD noF) n true t.neg
    else if t.kind=10 then beginF l
    else if t.kind=11 then endF l
    else noF
end Go.Proofs.YtgmpfnfomgadeaaGreat

/- What is claimed of the reference's Spans at patterns of so many levels; small facts for its walk. -/
namespace Go.Proofs.YtgmpfnfomgadeaaGreat
open Go.RowKit
def SpansAt (k:Nat) (l:List Nat):Prop:=∀(t:Tr) (A:Option Addr) (c:Nat) (w:World),Tr.In w k t→slimS k t→formedS k t=true→IsBytes w A l.length l→l.length≤10 →
  Calls Tryz.prog 15 #[.agg t.cs.toArray,.slice A l.length c] w (Tabled w (l.length+1) (spansS l k t))
theorem info_table:(Tryz.prog.info? 44).map (fun i=>(i.zero,i.size,i.bytes))=some (some (.slice none 0 0),1,24):=by kernel_rfl
def diagTo (F:Nat→Nat→Bool) (i i' j':Nat):Bool:=if i'<i then F i' j' else false
theorem diagTo_zero (F:Nat→Nat→Bool) (i' j':Nat):diagTo F 0 i' j'=noF i' j':=by unfold diagTo;rw[if_neg (Nat.not_lt_zero _)];rfl
theorem diagTo_step {F:Nat→Nat→Bool} {i c:Nat} {v:Bool} (hF:∀j,j≠c→F i j=false) (hv:v=F i c) (i' j':Nat):(if i'=i∧j'=c then v else diagTo F i i' j')=diagTo F (i+1) i' j':=by
  by_cases e:i'=i∧j'=c
  · obtain ⟨rfl,rfl⟩:=e
    rw[if_pos ⟨rfl,rfl⟩,hv]
    unfold diagTo
    rw[if_pos (by omega)]
  · rw[if_neg e]
    unfold diagTo
    by_cases c1:i'<i
    · rw[if_pos c1,if_pos (by omega)]
    · rw[if_neg c1]
      by_cases c2:i'=i
      · subst c2
        rw[if_pos (by omega),hF j' (fun q=>e ⟨rfl,q⟩)]
      · rw[if_neg (by omega)]
theorem diagTo_end {F:Nat→Nat→Bool} {m i' j':Nat} (h:i'<m):diagTo F m i' j'=F i' j':=by unfold diagTo;rw[if_pos h]
theorem begin_off {l:List Nat} {i j:Nat} (h:j≠i):beginF l i j=false:=by unfold beginF;rw[decide_eq_false (fun q=>h q.symm),Bool.false_and]
theorem end_off {l:List Nat} {i j:Nat} (h:j≠i):endF l i j=false:=by unfold endF;rw[decide_eq_false (fun q=>h q.symm),Bool.false_and]
theorem byte_off {s:St} {l:List Nat} {i j:Nat} (h:j≠i+1):byteF s l i j=false:=by unfold byteF;rw[decide_eq_false (fun q=>h q.1),Bool.false_and]
theorem begin_0 {l:List Nat}:true=beginF l 0 0:=rfl
theorem begin_at {l:List Nat} {i m x:Nat} {v:Bool} (hm:i=m+1) (hx:(l[m]?).getD 0=x) (hv:v=decide (x=10)):v=beginF l i i:=by
  subst hm;unfold beginF;rw[decide_eq_true rfl,Bool.true_and,decide_eq_false (by omega),Bool.false_or,show m+1-1=m from rfl,hx];exact hv
theorem end_last {l:List Nat} {i:Nat} (h:i=l.length):true=endF l i i:=by unfold endF;rw[decide_eq_true rfl,decide_eq_true h];rfl
theorem end_at {l:List Nat} {i x:Nat} {v:Bool} (hi:i<l.length) (hx:(l[i]?).getD 0=x) (hv:v=decide (x=10)):v=endF l i i:=by
  unfold endF;rw[decide_eq_true rfl,Bool.true_and,decide_eq_false (by omega),Bool.false_or,hx];exact hv
theorem byte_at {s:St} {l:List Nat} {i x:Nat} {v:Bool} (hi:i<l.length) (hx:(l[i]?).getD 0=x) (hv:v=s.has x):v=byteF s l i (i+1):=by
  unfold byteF;rw[decide_eq_true ⟨rfl,hi⟩,Bool.true_and,hx];exact hv
theorem byte_last {s:St} {l:List Nat} {i j:Nat} (h:l.length≤i):byteF s l i j=false:=by unfold byteF;rw[decide_eq_false (fun q=>by omega),Bool.false_and]
theorem at_types {w:World} {g h:Nat} {s t:TypeId} {cs ds:Array Value} (hg:At w g s cs) (hh:At w h t ds) (hne:s≠t):g≠h:=fun e=>by
  subst e
  unfold At at hg hh
  rw[hg] at hh
  injection hh with hh
  injection hh with _ h2 _
  exact hne h2
theorem refBlankI (n:Nat) (hn:n≤1000) (x:Int) (hx:x=(n:Int)) (w:World):Calls Tryz.prog 23 #[.int .i64 x] w (Tabled w n noF):=by
  subst hx
  refine (refBlank n hn w).mono ?_
  rintro e w' ⟨rfl,h,hb⟩
  exact ⟨_,_,rfl,h,hb⟩
theorem refOneI (n:Nat) (hn:n≤1000) (x:Int) (hx:x=(n:Int)) (w:World):Calls Tryz.prog 24 #[.int .i64 x] w (Tabled w n eqF):=by
  subst hx
  exact refOne n hn w
section
variable {k n:Nat} {l:List Nat} {t:Tr}
theorem spans_0 (hk:t.kind=0) (_:n=l.length+1):spansS l (k+1) t=noF:=by unfold spansS;simp[hk]
theorem spans_1 (hk:t.kind=1) (_:n=l.length+1):spansS l (k+1) t=eqF:=by unfold spansS;simp[hk]
theorem spans_2 (hk:t.kind=2) (_:n=l.length+1):spansS l (k+1) t=byteF t.set l:=by unfold spansS;simp[hk]
theorem spans_3 (hk:t.kind=3) (hn:n=l.length+1):spansS l (k+1) t=(t.parts.map (spansS l k)).foldl (fun f g=>thenF f g n) eqF:=by subst hn;unfold spansS;simp[hk]
theorem spans_4 (hk:t.kind=4) (_:n=l.length+1):spansS l (k+1) t=(t.parts.map (spansS l k)).foldl (fun f g i j=>f i j||g i j) noF:=by unfold spansS;simp[hk]
theorem spans_5 (hk:t.kind=5) (_:n=l.length+1):spansS l (k+1) t=(t.parts.map (spansS l k)).foldl (fun f g i j=>f i j&&g i j) (otherF noF):=by unfold spansS;simp[hk]
theorem spans_6 (hk:t.kind=6) (_:n=l.length+1):spansS l (k+1) t=otherF ((t.parts.map (spansS l k)).headD noF):=by unfold spansS;simp[hk]
theorem spans_7 (hk:t.kind=7) (hn:n=l.length+1):spansS l (k+1) t=timesT ((t.parts.map (spansS l k)).headD noF) n t.lo.toNat t.hi:=by subst hn;unfold spansS;simp[hk]
theorem spans_8 (hk:t.kind=8) (hn:n=l.length+1):spansS l (k+1) t=lookF ((t.parts.map (spansS l k)).headD noF) n false t.neg:=by subst hn;unfold spansS;simp[hk]
theorem spans_9 (hk:t.kind=9) (hn:n=l.length+1):spansS l (k+1) t=lookF ((t.parts.map (spansS l k)).headD noF) n true t.neg:=by subst hn;unfold spansS;simp[hk]
theorem spans_10 (hk:t.kind=10) (_:n=l.length+1):spansS l (k+1) t=beginF l:=by unfold spansS;simp[hk]
theorem spans_11 (hk:t.kind=11) (_:n=l.length+1):spansS l (k+1) t=endF l:=by unfold spansS;simp[hk]
end
end Go.Proofs.YtgmpfnfomgadeaaGreat

/- Nodes: as data, as cells, and what they match as tables. -/
set_option linter.unusedSimpArgs false
set_option linter.unusedVariables false
namespace Go.Proofs.YtgmpfnfomgadeaaGreat
open Go.RowKit
structure Nd where
  kind:Int
  set:St
  a:Int
  b:Int
  neg:Bool
def Nd.cs (x:Nd):List Value:=[.int .i64 x.kind,.int .u64 x.set.w0,.int .u64 x.set.w1,.int .u64 x.set.w2,.int .u64 x.set.w3,.int .i64 x.a,.int .i64 x.b,.bool x.neg]
theorem Nd.cs_length (x:Nd):x.cs.length=8:=rfl
theorem Nd.one (x:Nd):x.cs.toArray.all (·.oneCell')=true:=by simp[Nd.cs,Value.oneCell']
def Nd.zero:Nd:=⟨0,⟨0,0,0,0⟩,0,0,false⟩
def ndAt (l:List Nd) (j:Nat):Nd:=(l[j]?).getD Nd.zero
theorem ndAt_lt {l:List Nd} {j:Nat} (h:j<l.length):ndAt l j=l[j]:=by unfold ndAt;rw[List.getElem?_eq_getElem h];rfl
def NdsAt (w:World) (v:Value) (l:List Nd):Prop :=
  ∃A cap,v=.slice A l.length cap∧l.length≤9223372036854775807∧(0<l.length→∃b off,A=some ⟨b,off,none⟩∧b<w.heap.size∧∀(j:Nat) (h:j<l.length),w.rangeAt b (off+j*8) (ndAt l j).cs)
theorem NdsAt.next {w w':World} {v:Value} {l:List Nd} (h:NdsAt w v l) (hb:Below w.heap.size w w'):NdsAt w' v l:=by
  obtain ⟨A,cap,h1,h2,h3⟩:=h
  refine ⟨A,cap,h1,h2,fun h0=>?_⟩
  obtain ⟨b,off,e,hlt,hr⟩:=h3 h0
  exact ⟨b,off,e,Nat.lt_of_lt_of_le hlt hb.size,fun j hj=>fun i v hv=>((bcell hb).1 b _ hlt).trans (hr j hj i v hv)⟩
theorem NdsAt.len {w:World} {A:Option Addr} {n c:Nat} {l:List Nd} (h:NdsAt w (.slice A n c) l):n=l.length:=by
  obtain ⟨A',cap,h1,_⟩:=h
  injection h1
def boxN (w:World) (x:Nd):World:=(w.alloc (.cells #[.int .i64 0,.int .u64 0,.int .u64 0,.int .u64 0,.int .u64 0,.int .i64 0,.int .i64 0,.bool false] 61)).setRow w.heap.size x.cs.toArray
theorem boxN_at (w:World) (x:Nd):At (boxN w x) w.heap.size 61 x.cs.toArray:=At.row (At.new w 61 Nd.zero.cs.toArray) _
theorem boxN_next (w:World) (x:Nd):Below w.heap.size w (boxN w x):=below_row ((Below.refl _ _).alloc (Nat.le_refl _) _) (Nat.le_refl _) _
theorem Nd.cells {w:World} {g:Nat} {t:TypeId} {x:Nd} (h:At w g t x.cs.toArray):w.cell? ⟨g,0,none⟩=some (.int .i64 x.kind)∧w.cell? ⟨g,1,none⟩=some (.int .u64 x.set.w0)∧w.cell? ⟨g,2,none⟩=some (.int .u64 x.set.w1)∧w.cell? ⟨g,3,none⟩=some (.int .u64 x.set.w2)∧w.cell? ⟨g,4,none⟩=some (.int .u64 x.set.w3)∧w.cell? ⟨g,5,none⟩=some (.int .i64 x.a)∧w.cell? ⟨g,6,none⟩=some (.int .i64 x.b)∧w.cell? ⟨g,7,none⟩=some (.bool x.neg) :=
  ⟨At.cell h 0,At.cell h 1,At.cell h 2,At.cell h 3,At.cell h 4,At.cell h 5,At.cell h 6,At.cell h 7⟩
def bitF (bits:List Nat) (a:Nat) (neg:Bool) (i j:Nat):Bool:=decide (i=j)&&(decide (((bits[i]?).getD 0) >>> a % 2=1) != neg)
def fAt (fs:List (Nat→Nat→Bool)) (k:Int):Nat→Nat→Bool:=(fs[k.toNat]?).getD noF
def nodeF (l bits:List Nat) (fs:List (Nat→Nat→Bool)) (x:Nd):Nat→Nat→Bool :=
  if x.kind=1 then eqF
  else if x.kind=2 then byteF x.set l
  else if x.kind=3 then thenF (fAt fs x.a) (fAt fs x.b) (l.length+1)
  else if x.kind=4 then fun i j=>fAt fs x.a i j||fAt fs x.b i j
  else if x.kind=5 then fun i j=>fAt fs x.a i j&&fAt fs x.b i j
  else if x.kind=6 then otherF (fAt fs x.a)
  else if x.kind=7 then anyTo (fAt fs x.a) (l.length+1) (l.length+1)
  else if x.kind=8 then bitF bits x.a.toNat x.neg
  else noF
def nodesF (l bits:List Nat) (ns:List Nd):Nat→List (Nat→Nat→Bool)
  | 0=>[]
  | j+1=>nodesF l bits ns j++[nodeF l bits (nodesF l bits ns j) (ndAt ns j)]
theorem nodesF_length (l bits:List Nat) (ns:List Nd):∀j,(nodesF l bits ns j).length=j
  | 0=>rfl
  | j+1=>by
    show (nodesF l bits ns j++[_]).length=j+1
    rw[List.length_append,nodesF_length l bits ns j];rfl
def NdOk (x:Nd) (j:Nat):Prop :=
  x.set.Ok∧(x.kind=3∨x.kind=4∨x.kind=5→0≤x.a∧x.a<j∧0≤x.b∧x.b<j)∧(x.kind=6∨x.kind=7→0≤x.a∧x.a<j)∧(x.kind=8→0≤x.a∧x.a<4)
end Go.Proofs.YtgmpfnfomgadeaaGreat

/- '==' on two sets. -/
namespace Go.Proofs.YtgmpfnfomgadeaaGreat
open Go.RowKit
theorem setEq (w:World) (s t:St) (v:Bool) (h:s.eqb t=v) :
    (Op.equalIn 10000 24 (.agg #[.int .u64 s.w0,.int .u64 s.w1,.int .u64 s.w2,.int .u64 s.w3]) (.agg #[.int .u64 t.w0,.int .u64 t.w1,.int .u64 t.w2,.int .u64 t.w3])).run Tryz.prog w=.ok v w:=by
  rw[←h]
  exact run_set_eq (d:=9998) Tryz.underlying24 (by kernel_rfl) Tryz.underlying22 (by kernel_rfl) w s t
end Go.Proofs.YtgmpfnfomgadeaaGreat

/- '==' on two nodes. -/
set_option linter.unusedSimpArgs false
namespace Go.Proofs.YtgmpfnfomgadeaaGreat
open Go.RowKit
def Nd.eqb (x y:Nd):Bool:=x.kind==y.kind&&(x.set.eqb y.set&&(x.a==y.a&&(x.b==y.b&&x.neg==y.neg)))
theorem Nd.eqb_iff (x y:Nd):x.eqb y=true↔x=y:=by
  cases x;cases y
  simp[Nd.eqb,St.eqb_iff]
theorem Nd.eqb_self (x:Nd):x.eqb x=true:=(Nd.eqb_iff x x).2 rfl
theorem fields_nd:(Tryz.prog.fieldsOf 61).toList.map (fun f=>(f.name,f.type,f.offset))=[("Kind",3,0),("Set",24,1),("A",3,5),("B",3,6),("Neg",4,7)]:=by kernel_rfl
theorem fields_nd':∃f0 f1 f2 f3 f4,(Tryz.prog.fieldsOf 61).toList=[f0,f1,f2,f3,f4]∧(f0.name="Kind"∧f0.type=3∧f0.offset=0)∧(f1.name="Set"∧f1.type=24∧f1.offset=1)∧(f2.name="A"∧f2.type=3∧f2.offset=5)∧(f3.name="B"∧f3.type=3∧f3.offset=6)∧(f4.name="Neg"∧f4.type=4∧f4.offset=7):=by
  have h:=fields_nd
  generalize (Tryz.prog.fieldsOf 61).toList=l at h ⊢
  have hl:l.length=5:=by have:=congrArg List.length h;simpa using this
  match l,hl with
  | [f0,f1,f2,f3,f4],_ =>
    simp only[List.map_cons,List.map_nil,List.cons.injEq,Prod.mk.injEq,and_true] at h
    exact ⟨f0,f1,f2,f3,f4,rfl,h⟩
theorem struct_nd:Tryz.prog.underlying 61=some (.struct (Tryz.prog.fieldsOf 61)):=by kernel_rfl
theorem stood_nd:Tryz.prog.stoodInHeld 61=false:=by kernel_rfl
theorem nd_part0 (w:World) (x:Nd):(part 3 x.cs.toArray 0).run Tryz.prog w=.ok (.int .i64 x.kind) w:=by
  simp[part,isAgg,run_underlying Tryz.underlying3,Nd.cs]
theorem nd_part1 (w:World) (x:Nd):(part 24 x.cs.toArray 1).run Tryz.prog w=.ok (.agg #[.int .u64 x.set.w0,.int .u64 x.set.w1,.int .u64 x.set.w2,.int .u64 x.set.w3]) w:=by
  obtain ⟨iR,hR,hRs⟩:∃i,Tryz.prog.info? 24=some i∧i.size=4:=by
    have h:(Tryz.prog.info? 24).map (·.size)=some 4:=by kernel_rfl
    cases hq:Tryz.prog.info? 24 with
    | none=>simp[hq] at h
    | some i=>exact ⟨i,rfl,by simpa [hq] using h⟩
  simp only[part,isAgg,Sem.run_bind,run_underlying Tryz.underlying24,Result.andThen_ok,sizeOf,typeInfo,Sem.run_pure,if_true]
  simp[hR,hRs,Nd.cs]
theorem nd_part2 (w:World) (x:Nd):(part 3 x.cs.toArray 5).run Tryz.prog w=.ok (.int .i64 x.a) w:=by
  simp[part,isAgg,run_underlying Tryz.underlying3,Nd.cs]
theorem nd_part3 (w:World) (x:Nd):(part 3 x.cs.toArray 6).run Tryz.prog w=.ok (.int .i64 x.b) w:=by
  simp[part,isAgg,run_underlying Tryz.underlying3,Nd.cs]
theorem nd_part4 (w:World) (x:Nd):(part 4 x.cs.toArray 7).run Tryz.prog w=.ok (.bool x.neg) w:=by
  simp[part,isAgg,run_underlying Tryz.underlying4,Nd.cs]
theorem ndEqD (d:Nat) (w:World) (x y:Nd):(Op.equalIn (d+1+1+1) 61 (.agg x.cs.toArray) (.agg y.cs.toArray)).run Tryz.prog w=.ok (x.eqb y) w:=by
  rw[run_equalIn_struct w (d+1+1) _ _ _ struct_nd stood_nd]
  obtain ⟨f0,f1,f2,f3,f4,hfs,⟨n0,t0,o0⟩,⟨n1,t1,o1⟩,⟨n2,t2,o2⟩,⟨n3,t3,o3⟩,⟨n4,t4,o4⟩⟩:=fields_nd'
  rw[hfs]
  have hi:∀a b:Int,(Op.equalIn (d+1+1) 3 (.int .i64 a) (.int .i64 b)).run Tryz.prog w=.ok (a==b) w:=fun a b=>run_equalIn_int w (d+1) 3 .i64 .i64 a b Tryz.underlying3
  have hb:∀a b:Bool,(Op.equalIn (d+1+1) 4 (.bool a) (.bool b)).run Tryz.prog w=.ok (a==b) w:=fun a b=>run_equalIn_bool w (d+1) 4 a b Tryz.underlying4
  have hq:=run_set_eq (d:=d) Tryz.underlying24 (by kernel_rfl) Tryz.underlying22 (by kernel_rfl) w x.set y.set
  have hn0:f0.name≠"_":=by rw[n0];decide
  have hn1:f1.name≠"_":=by rw[n1];decide
  have hn2:f2.name≠"_":=by rw[n2];decide
  have hn3:f3.name≠"_":=by rw[n3];decide
  have hn4:f4.name≠"_":=by rw[n4];decide
  unfold Op.eqFields
  rw[if_pos hn0,t0,o0]
  simp only[Sem.run_bind,nd_part0,hi x.kind y.kind,Result.andThen_ok]
  cases q0:(x.kind==y.kind) with
  | false=>simp[Nd.eqb,q0]
  | true =>
    simp only[Bool.not_true,Bool.false_eq_true,if_false]
    unfold Op.eqFields
    rw[if_pos hn1,t1,o1]
    simp only[Sem.run_bind,nd_part1,hq,Result.andThen_ok]
    cases q1:(x.set.eqb y.set) with
    | false=>simp[Nd.eqb,q0,q1]
    | true =>
      simp only[Bool.not_true,Bool.false_eq_true,if_false]
      unfold Op.eqFields
      rw[if_pos hn2,t2,o2]
      simp only[Sem.run_bind,nd_part2,hi x.a y.a,Result.andThen_ok]
      cases q2:(x.a==y.a) with
      | false=>simp[Nd.eqb,q0,q1,q2]
      | true =>
        simp only[Bool.not_true,Bool.false_eq_true,if_false]
        unfold Op.eqFields
        rw[if_pos hn3,t3,o3]
        simp only[Sem.run_bind,nd_part3,hi x.b y.b,Result.andThen_ok]
        cases q3:(x.b==y.b) with
        | false=>simp[Nd.eqb,q0,q1,q2,q3]
        | true =>
          simp only[Bool.not_true,Bool.false_eq_true,if_false]
          unfold Op.eqFields
          rw[if_pos hn4,t4,o4]
          simp only[Sem.run_bind,nd_part4,hb x.neg y.neg,Result.andThen_ok]
          cases q4:(x.neg==y.neg) with
          | false=>simp[Nd.eqb,q0,q1,q2,q3,q4]
          | true =>
            simp only[Bool.not_true,Bool.false_eq_true,if_false]
            simp[Nd.eqb,Op.eqFields,q0,q1,q2,q3,q4]
theorem ndEq (w:World) (x y:Nd) (v:Bool) (h:x.eqb y=v):(Op.equalIn 10000 61 (.agg x.cs.toArray) (.agg y.cs.toArray)).run Tryz.prog w=.ok v w:=by
  rw[←h];exact ndEqD 9997 w x y
end Go.Proofs.YtgmpfnfomgadeaaGreat

/- bolterref09.Right: may a node be put behind so many? -/
set_option linter.unusedSimpArgs false
set_option linter.unusedVariables false
namespace Go.Proofs.YtgmpfnfomgadeaaGreat
open Go.RowKit
def aIn (a:Int) (n:Int):Bool:=decide (0≤a)&&decide (a<n)
def noSt:St:=⟨0,0,0,0⟩
def Nd.bare (x:Nd):Nd:=⟨x.kind,noSt,0,0,false⟩
def Nd.right (x:Nd) (n:Nat):Bool :=
  if x.kind=0∨x.kind=1 then x.eqb x.bare
  else if x.kind=2 then x.eqb ⟨x.kind,x.set,0,0,false⟩
  else if x.kind=3∨x.kind=4∨x.kind=5 then x.eqb ⟨x.kind,noSt,x.a,x.b,false⟩&&aIn x.a n&&aIn x.b n
  else if x.kind=6∨x.kind=7 then x.eqb ⟨x.kind,noSt,x.a,0,false⟩&&aIn x.a n
  else if x.kind=8 then x.eqb ⟨x.kind,noSt,x.a,0,x.neg⟩&&aIn x.a 4
  else false
theorem below_drewN' {B:Nat} {w w1:World} (h:Below B w w1) (q:Nat):Below B w (w1.drewN q):=⟨h.os,h.tape,h.output,h.size,h.block⟩
end Go.Proofs.YtgmpfnfomgadeaaGreat
