/- Joined: Then, Either, Both, Any. -/
import Derived.Test.YtgmpfnfomgadeaaGreatProg
import Derived.Test.YtgmpfnfomgadeaaGreatMaa
import Derived.Test.YtgmpfnfomgadeaaGreatMab
import Derived.BigRegion
import Derived.BigQuiet
/- What the reference's Then answers. -/
set_option linter.unusedVariables false
set_option maxHeartbeats 8000000
set_option maxRecDepth 100000
namespace Go.Proofs.YtgmpfnfomgadeaaGreat
open Go.RowKit
def thenPart (fa fb:Nat→Nat→Bool) (i k j:Nat):Bool:=(List.range k).any (fun m=>decide (i≤m∧m≤j)&&(fa i m&&fb m j))
def thenF (fa fb:Nat→Nat→Bool) (n i j:Nat):Bool:=thenPart fa fb i n j
section
variable {fa fb:Nat→Nat→Bool} {i k j n i' j':Nat}
theorem thenPart_succ:thenPart fa fb i (k+1) j=(thenPart fa fb i k j||(decide (i≤k∧k≤j)&&(fa i k&&fb k j))):=by
  unfold thenPart;rw[List.range_succ,List.any_append];simp
theorem thenPart_start:thenPart fa fb i i j=false:=by
  unfold thenPart;rw[List.any_eq_false]
  intro m hm
  have:m<i:=by simpa using hm
  rw[decide_eq_false (by omega)];simp
theorem thenPart_no (h:fa i k=false):thenPart fa fb i (k+1) j=thenPart fa fb i k j:=by rw[thenPart_succ,h];simp
def thenTo (fa fb:Nat→Nat→Bool) (n i k:Nat) (i' j':Nat):Bool:=if i'<i then thenF fa fb n i' j' else if i'=i then thenPart fa fb i k j' else false
def thenTo2 (fa fb:Nat→Nat→Bool) (n i k j:Nat) (i' j':Nat):Bool:=if i'=i∧k≤j'∧j'<j then thenPart fa fb i k j'||fb k j' else thenTo fa fb n i k i' j'
theorem thenTo_start:thenTo fa fb n i i i' j'=if i'<i then thenF fa fb n i' j' else false:=by
  unfold thenTo
  by_cases h:i'<i
  · rw[if_pos h,if_pos h]
  · rw[if_neg h,if_neg h]
    by_cases e:i'=i
    · rw[if_pos e,thenPart_start]
    · rw[if_neg e]
theorem thenTo_next:thenTo fa fb n i n i' j'=if i'<i+1 then thenF fa fb n i' j' else false:=by
  unfold thenTo
  by_cases h:i'<i
  · rw[if_pos h,if_pos (by omega)]
  · rw[if_neg h]
    by_cases e:i'=i
    · subst e;rw[if_pos rfl,if_pos (by omega)];rfl
    · rw[if_neg e,if_neg (by omega)]
theorem thenTo_no (h:fa i k=false):thenTo fa fb n i (k+1) i' j'=thenTo fa fb n i k i' j':=by unfold thenTo;rw[thenPart_no h]
theorem thenTo2_start:thenTo2 fa fb n i k k i' j'=thenTo fa fb n i k i' j':=by unfold thenTo2;rw[if_neg (by omega)]
theorem thenTo2_end (hik:i≤k) (h:fa i k=true) (hj:j'<n):thenTo2 fa fb n i k n i' j'=thenTo fa fb n i (k+1) i' j':=by
  unfold thenTo2 thenTo
  by_cases e:i'=i
  · subst e
    by_cases hk:k≤j'
    · rw[if_pos ⟨rfl,hk,hj⟩,if_neg (Nat.lt_irrefl _),if_pos rfl,thenPart_succ,h,decide_eq_true ⟨hik,hk⟩];simp
    · rw[if_neg (by omega),if_neg (Nat.lt_irrefl _),if_pos rfl,if_neg (Nat.lt_irrefl _),if_pos rfl,thenPart_succ,decide_eq_false (by omega)];simp
  · rw[if_neg (fun q=>e q.1),if_neg e,if_neg e]
theorem thenTo2_at (hk:k≤j):thenTo2 fa fb n i k j i j=thenPart fa fb i k j:=by
  unfold thenTo2 thenTo
  rw[if_neg (by omega),if_neg (Nat.lt_irrefl _),if_pos rfl]
theorem thenTo2_step (hk:k≤j):(if i'=i∧j'=j then thenPart fa fb i k j||fb k j else thenTo2 fa fb n i k j i' j')=thenTo2 fa fb n i k (j+1) i' j':=by
  by_cases e:i'=i∧j'=j
  · obtain ⟨rfl,rfl⟩:=e
    unfold thenTo2
    rw[if_pos ⟨rfl,rfl⟩,if_pos ⟨rfl,hk,by omega⟩]
  · rw[if_neg e]
    unfold thenTo2
    by_cases c:i'=i∧k≤j'∧j'<j
    · rw[if_pos c,if_pos ⟨c.1,c.2.1,by omega⟩]
    · rw[if_neg c,if_neg (by omega)]
end
theorem refThen (n ga gb:Nat) (fa fb:Nat→Nat→Bool) (hn:n≤1000) (w:World) (ha:TIn w ga n fa) (hb:TIn w gb n fb) :
    Calls Tryz.prog 26 #[.slice (some ⟨ga,0,none⟩) n n,.slice (some ⟨gb,0,none⟩) n n] w (Tabled w n (thenF fa fb n)):=by
  obtain ⟨ra,ha⟩:=ha
  obtain ⟨rb,hb⟩:=hb
  have HA:=Lib.hid ha
  have HB:=Lib.hid hb
  clear ha hb
  go_enter Tryz.func26,Tryz.ntmps26
  go_wp2_with fail
  refine (refBlank n hn _).mono ?_
  rintro e w1 ⟨rfl,ht1,hb1⟩
  obtain ⟨g,hg⟩:∃g,g=w.heap.size:=⟨_,rfl⟩
  obtain ⟨r,hr⟩:∃r:Nat→Nat,r=(fun i=>w.heap.size+1+i):=⟨_,rfl⟩
  rw[←hr] at ht1
  clear hr
  have hT1:Hid (TabAt w1 51 4 w.heap.size g n r (thenTo fa fb n 0 0)):=by rw[hg];exact ht1.congr (fun i' j' _ _=>by rw[thenTo_start,if_neg (Nat.not_lt_zero _)])
  have HB1:=Lib.hid hb1
  clear ht1 hb1
  rw[←hg]
  clear hg
  go_wp2_with fail
  go_loopw [14] (fun x wr=>∃i:Nat,i≤n∧x=.int .i64 i∧Hid (TabAt wr 51 4 w.heap.size g n r (thenTo fa fb n i i))∧Hid (Below w.heap.size w wr)) (fun x _=>n-(intOf x).toNat)
  case atStart=>exact ⟨0,Nat.zero_le _,rfl,hT1,HB1⟩
  case round =>
    obtain ⟨i,hi,rfl,hT,hB⟩:=hrel
    by_cases hlt:i<n
    · have hd1:decide ((i:Int)<(n:Int))=true:=dec_t (by omega)
      have hd2:(i:Int)<(n:Int):=by omega
      have hi0:(0:Int)≤(i:Int):=by omega
      go_wp2_with fail
      go_loopw [7] (fun x wr=>∃k:Nat,i≤k∧k≤n∧x=.int .i64 k∧Hid (TabAt wr 51 4 w.heap.size g n r (thenTo fa fb n i k))∧Hid (Below w.heap.size w wr)) (fun x _=>n-(intOf x).toNat)
      case atStart=>exact ⟨i,Nat.le_refl _,hi,rfl,hT,hB⟩
      case round =>
        clear hT hB
        obtain ⟨k,hik,hk,rfl,hT,hB⟩:=hrel
        by_cases hltk:k<n
        · have hdk:decide ((k:Int)<(n:Int))=true:=dec_t (by omega)
          have hdk2:(k:Int)<(n:Int):=by omega
          have hk0:(0:Int)≤(k:Int):=by omega
          obtain ⟨x,hx⟩:∃x:Bool,fa i k=x:=⟨_,rfl⟩
          have HX:=Lib.hid hx
          clear hx
          have hT2:Hid (TabAt wr 51 4 w.heap.size g n r (thenTo2 fa fb n i k k)):=hT.out.congr (fun i' j' _ _=>thenTo2_start.symm)
          go_wp2_with fail
          go_loopw [8] (fun x wr=>∃j:Nat,k≤j∧j≤n∧(fa i k=false→j=k)∧x=.int .i64 j∧Hid (TabAt wr 51 4 w.heap.size g n r (thenTo2 fa fb n i k j))∧Hid (Below w.heap.size w wr)) (fun x _=>n-(intOf x).toNat)
          case atStart=>exact ⟨k,Nat.le_refl _,hk,fun _=>rfl,rfl,hT2,hB⟩
          case round =>
            clear hT hB hT2
            obtain ⟨j,hkj,hj,hjk,rfl,hT,hB⟩:=hrel
            have HJK:=Lib.hid hjk
            clear hjk
            by_cases hltj:j<n
            · have hA:=(HA.out.next hB.out)
              have hBb:=(HB.out.next hB.out)
              have q1:=hA.cellTop hlt
              have q2:=hA.cellRow hlt hltk
              rw[HX.out] at q2
              have q3:=hBb.cellTop hltk
              have q4:=hBb.cellRow hltk hltj
              have q5:=hT.out.cellTop hlt
              have q6:=hT.out.cellRow hlt hltj
              rw[thenTo2_at hkj] at q6
              have q7:=hT.out.freeRow hlt j
              have hj0:(0:Int)≤(j:Int):=by omega
              have hjn:(j:Int)<(n:Int):=by omega
              have hdj:decide ((j:Int)<(n:Int))=true:=dec_t hjn
              clear hA hBb
              cases x
              ·
                go_wp2_with fail
                go_roundw
                case rel=>exact ⟨k+1,by omega,by omega,by go_num,Lib.hid (hT.out.congr (fun i' j' _ _=>by rw[HJK.out HX.out,thenTo2_start,thenTo_no HX.out])),hB⟩
                case measure=>simp[intOf];omega
              · obtain ⟨y,hy⟩:∃y:Bool,thenPart fa fb i k j=y:=⟨_,rfl⟩
                obtain ⟨z,hz⟩:∃z:Bool,fb k j=z:=⟨_,rfl⟩
                rw[hy] at q6
                rw[hz] at q4
                have HY:=Lib.hid hy
                have HZ:=Lib.hid hz
                clear hy hz
                cases y
                · go_wp2_with fail
                  go_region
                  go_wp2_with fail
                  go_roundw
                  case rel=>exact ⟨j+1,by omega,by omega,(fun h=>by rw[HX.out] at h;cases h),by go_num,Lib.hid (TabAt.drew ((hT.out.put j hlt z).congr (fun i' j' _ _=>by rw[←thenTo2_step hkj,HY.out,HZ.out,Bool.false_or]))),Lib.hid (Below.drew (hB.out.setCell (by have:=(hT.out.rlow i hlt).1;exact this) _))⟩
                  case measure=>simp[intOf];omega
                · go_wp2_with fail
                  go_region
                  go_wp2_with fail
                  go_roundw
                  case rel=>exact ⟨j+1,by omega,by omega,(fun h=>by rw[HX.out] at h;cases h),by go_num,Lib.hid (TabAt.drew ((hT.out.put j hlt true).congr (fun i' j' _ _=>by rw[←thenTo2_step hkj,HY.out,Bool.true_or]))),Lib.hid (Below.drew (hB.out.setCell (by have:=(hT.out.rlow i hlt).1;exact this) _))⟩
                  case measure=>simp[intOf];omega
            · obtain rfl:j=n:=by omega
              have hdj:decide ((j:Int)<(j:Int))=false:=dec_f (by omega)
              go_wp2_with fail
              go_roundw
              case rel =>
                refine ⟨k+1,by omega,by omega,by go_num,Lib.hid (hT.out.congr (fun i' j' _ hj'=>?_)),hB⟩
                cases x
                · exact absurd (HJK.out HX.out) (by omega)
                · exact thenTo2_end hik HX.out hj'
              case measure=>simp[intOf];omega
        · obtain rfl:k=n:=by omega
          go_wp2_with fail
          go_roundw
          case rel=>exact ⟨i+1,by omega,by go_num,Lib.hid (hT.out.congr (fun i' j' _ _=>by rw[thenTo_next,thenTo_start])),hB⟩
          case measure=>simp[intOf];omega
    · obtain rfl:i=n:=by omega
      go_wp2_with fail
      go_ret
      exact ⟨g,r,rfl,hT.out.congr (fun i' j' h1 _=>by rw[thenTo_start,if_pos h1]),hB.out⟩
end Go.Proofs.YtgmpfnfomgadeaaGreat

/- What the reference's Either answers. -/
set_option linter.unusedVariables false
set_option maxHeartbeats 4000000
set_option maxRecDepth 100000
namespace Go.Proofs.YtgmpfnfomgadeaaGreat
open Go.RowKit
theorem refEither (n ga gb:Nat) (fa fb:Nat→Nat→Bool) (hn:n≤1000) (w:World) (ha:TIn w ga n fa) (hb:TIn w gb n fb) :
    Calls Tryz.prog 27 #[.slice (some ⟨ga,0,none⟩) n n,.slice (some ⟨gb,0,none⟩) n n] w (Tabled w n (fun i j=>fa i j||fb i j)):=by
  obtain ⟨ra,ha⟩:=ha
  obtain ⟨rb,hb⟩:=hb
  have HA:=Lib.hid ha
  have HB:=Lib.hid hb
  clear ha hb
  go_enter Tryz.func27,Tryz.ntmps27
  go_wp2_with fail
  refine (refBlank n hn _).mono ?_
  rintro e w1 ⟨rfl,ht1,hb1⟩
  obtain ⟨g,hg⟩:∃g,g=w.heap.size:=⟨_,rfl⟩
  obtain ⟨r,hr⟩:∃r:Nat→Nat,r=(fun i=>w.heap.size+1+i):=⟨_,rfl⟩
  rw[←hr] at ht1
  clear hr
  have hT1:Hid (TabAt w1 51 4 w.heap.size g n r (fillTo (fun i j=>fa i j||fb i j) 0 0)):=by rw[hg];exact ht1.fillStart
  have HB1:=Lib.hid hb1
  clear ht1 hb1
  rw[←hg]
  clear hg
  go_wp2_with fail
  go_loopw [13] (fun x wr=>∃i:Nat,i≤n∧x=.int .i64 i∧Hid (TabAt wr 51 4 w.heap.size g n r (fillTo (fun i j=>fa i j||fb i j) i 0))∧Hid (Below w.heap.size w wr)) (fun x _=>n-(intOf x).toNat)
  case atStart=>exact ⟨0,Nat.zero_le _,rfl,hT1,HB1⟩
  case round =>
    obtain ⟨i,hi,rfl,hT,hB⟩:=hrel
    by_cases hlt:i<n
    · have hd1:decide ((i:Int)<(n:Int))=true:=dec_t (by omega)
      have hd2:(i:Int)<(n:Int):=by omega
      have hi0:(0:Int)≤(i:Int):=by omega
      go_wp2_with fail
      go_loopw [18] (fun x wr=>∃j:Nat,j≤n∧x=.int .i64 j∧Hid (TabAt wr 51 4 w.heap.size g n r (fillTo (fun i j=>fa i j||fb i j) i j))∧Hid (Below w.heap.size w wr)) (fun x _=>n-(intOf x).toNat)
      case atStart=>exact ⟨0,Nat.zero_le _,rfl,hT,hB⟩
      case round =>
        clear hT hB
        obtain ⟨j,hj,rfl,hT,hB⟩:=hrel
        by_cases hltj:j<n
        · have hA:=(HA.out.next hB.out)
          have hBb:=(HB.out.next hB.out)
          have q1:=hA.cellTop hlt
          have q2:=hA.cellRow hlt hltj
          have q3:=hBb.cellTop hlt
          have q4:=hBb.cellRow hlt hltj
          have q5:=hT.out.cellTop hlt
          have q6:=hT.out.cellRow hlt hltj
          have q7:=hT.out.freeRow hlt j
          obtain ⟨old,hold⟩:∃v:Bool,fillTo (fun i j=>fa i j||fb i j) i j i j=v:=⟨_,rfl⟩
          simp only[hold] at q6
          clear hold
          have hj0:(0:Int)≤(j:Int):=by omega
          have hjn:(j:Int)<(n:Int):=by omega
          clear hA hBb
          obtain ⟨x,hx⟩:∃x:Bool,fa i j=x:=⟨_,rfl⟩
          obtain ⟨y,hy⟩:∃y:Bool,fb i j=y:=⟨_,rfl⟩
          rw[hx] at q2
          rw[hy] at q4
          have HX:=Lib.hid hx
          have HY:=Lib.hid hy
          clear hx hy
          cases x
          · go_wp2_with fail
            go_region
            go_wp2_with fail
            go_roundw
            case rel=>exact ⟨j+1,by omega,by go_num,Lib.hid (TabAt.drew (hT.out.fillStep hlt (by rw[HX.out,HY.out];rfl))),Lib.hid (Below.drew (hB.out.setCell (by have:=(hT.out.rlow i hlt).1;exact this) _))⟩
            case measure=>simp[intOf];omega
          · go_wp2_with fail
            go_region
            go_wp2_with fail
            go_roundw
            case rel=>exact ⟨j+1,by omega,by go_num,Lib.hid (TabAt.drew (hT.out.fillStep hlt (by rw[HX.out,HY.out];rfl))),Lib.hid (Below.drew (hB.out.setCell (by have:=(hT.out.rlow i hlt).1;exact this) _))⟩
            case measure=>simp[intOf];omega
        · obtain rfl:j=n:=by omega
          go_wp2_with fail
          go_roundw
          case rel=>exact ⟨i+1,by omega,by go_num,Lib.hid hT.out.fillRow,hB⟩
          case measure=>simp[intOf];omega
    · obtain rfl:i=n:=by omega
      go_wp2_with fail
      go_ret
      exact ⟨g,r,rfl,hT.out.fillEnd,hB.out⟩
end Go.Proofs.YtgmpfnfomgadeaaGreat

/- What the reference's Both answers. -/
set_option linter.unusedVariables false
set_option maxHeartbeats 4000000
set_option maxRecDepth 100000
namespace Go.Proofs.YtgmpfnfomgadeaaGreat
open Go.RowKit
theorem refBoth (n ga gb:Nat) (fa fb:Nat→Nat→Bool) (hn:n≤1000) (w:World) (ha:TIn w ga n fa) (hb:TIn w gb n fb) :
    Calls Tryz.prog 28 #[.slice (some ⟨ga,0,none⟩) n n,.slice (some ⟨gb,0,none⟩) n n] w (Tabled w n (fun i j=>fa i j&&fb i j)):=by
  obtain ⟨ra,ha⟩:=ha
  obtain ⟨rb,hb⟩:=hb
  have HA:=Lib.hid ha
  have HB:=Lib.hid hb
  clear ha hb
  go_enter Tryz.func28,Tryz.ntmps28
  go_wp2_with fail
  refine (refBlank n hn _).mono ?_
  rintro e w1 ⟨rfl,ht1,hb1⟩
  obtain ⟨g,hg⟩:∃g,g=w.heap.size:=⟨_,rfl⟩
  obtain ⟨r,hr⟩:∃r:Nat→Nat,r=(fun i=>w.heap.size+1+i):=⟨_,rfl⟩
  rw[←hr] at ht1
  clear hr
  have hT1:Hid (TabAt w1 51 4 w.heap.size g n r (fillTo (fun i j=>fa i j&&fb i j) 0 0)):=by rw[hg];exact ht1.fillStart
  have HB1:=Lib.hid hb1
  clear ht1 hb1
  rw[←hg]
  clear hg
  go_wp2_with fail
  go_loopw [13] (fun x wr=>∃i:Nat,i≤n∧x=.int .i64 i∧Hid (TabAt wr 51 4 w.heap.size g n r (fillTo (fun i j=>fa i j&&fb i j) i 0))∧Hid (Below w.heap.size w wr)) (fun x _=>n-(intOf x).toNat)
  case atStart=>exact ⟨0,Nat.zero_le _,rfl,hT1,HB1⟩
  case round =>
    obtain ⟨i,hi,rfl,hT,hB⟩:=hrel
    by_cases hlt:i<n
    · have hd1:decide ((i:Int)<(n:Int))=true:=dec_t (by omega)
      have hd2:(i:Int)<(n:Int):=by omega
      have hi0:(0:Int)≤(i:Int):=by omega
      go_wp2_with fail
      go_loopw [18] (fun x wr=>∃j:Nat,j≤n∧x=.int .i64 j∧Hid (TabAt wr 51 4 w.heap.size g n r (fillTo (fun i j=>fa i j&&fb i j) i j))∧Hid (Below w.heap.size w wr)) (fun x _=>n-(intOf x).toNat)
      case atStart=>exact ⟨0,Nat.zero_le _,rfl,hT,hB⟩
      case round =>
        clear hT hB
        obtain ⟨j,hj,rfl,hT,hB⟩:=hrel
        by_cases hltj:j<n
        · have hA:=(HA.out.next hB.out)
          have hBb:=(HB.out.next hB.out)
          have q1:=hA.cellTop hlt
          have q2:=hA.cellRow hlt hltj
          have q3:=hBb.cellTop hlt
          have q4:=hBb.cellRow hlt hltj
          have q5:=hT.out.cellTop hlt
          have q6:=hT.out.cellRow hlt hltj
          have q7:=hT.out.freeRow hlt j
          obtain ⟨old,hold⟩:∃v:Bool,fillTo (fun i j=>fa i j&&fb i j) i j i j=v:=⟨_,rfl⟩
          simp only[hold] at q6
          clear hold
          have hj0:(0:Int)≤(j:Int):=by omega
          have hjn:(j:Int)<(n:Int):=by omega
          clear hA hBb
          obtain ⟨x,hx⟩:∃x:Bool,fa i j=x:=⟨_,rfl⟩
          obtain ⟨y,hy⟩:∃y:Bool,fb i j=y:=⟨_,rfl⟩
          rw[hx] at q2
          rw[hy] at q4
          have HX:=Lib.hid hx
          have HY:=Lib.hid hy
          clear hx hy
          cases x
          · go_wp2_with fail
            go_region
            go_wp2_with fail
            go_roundw
            case rel=>exact ⟨j+1,by omega,by go_num,Lib.hid (TabAt.drew (hT.out.fillStep hlt (by rw[HX.out,HY.out];rfl))),Lib.hid (Below.drew (hB.out.setCell (by have:=(hT.out.rlow i hlt).1;exact this) _))⟩
            case measure=>simp[intOf];omega
          · go_wp2_with fail
            go_region
            go_wp2_with fail
            go_roundw
            case rel=>exact ⟨j+1,by omega,by go_num,Lib.hid (TabAt.drew (hT.out.fillStep hlt (by rw[HX.out,HY.out];rfl))),Lib.hid (Below.drew (hB.out.setCell (by have:=(hT.out.rlow i hlt).1;exact this) _))⟩
            case measure=>simp[intOf];omega
        · obtain rfl:j=n:=by omega
          go_wp2_with fail
          go_roundw
          case rel=>exact ⟨i+1,by omega,by go_num,Lib.hid hT.out.fillRow,hB⟩
          case measure=>simp[intOf];omega
    · obtain rfl:i=n:=by omega
      go_wp2_with fail
      go_ret
      exact ⟨g,r,rfl,hT.out.fillEnd,hB.out⟩
end Go.Proofs.YtgmpfnfomgadeaaGreat

/- What the reference's Any and times answer. -/
set_option linter.unusedVariables false
set_option maxHeartbeats 4000000
set_option maxRecDepth 100000
namespace Go.Proofs.YtgmpfnfomgadeaaGreat
open Go.RowKit
def eqF (i j:Nat):Bool:=decide (i=j)
def anyTo (fa:Nat→Nat→Bool) (n:Nat):Nat→Nat→Nat→Bool
  | 0=>eqF
  | m+1=>fun i j=>anyTo fa n m i j||thenF (anyTo fa n m) fa n i j
def powF (fa:Nat→Nat→Bool) (n:Nat):Nat→Nat→Nat→Bool
  | 0=>eqF
  | m+1=>thenF (powF fa n m) fa n
def outF (fa:Nat→Nat→Bool) (n l:Nat):Nat→Nat→Nat→Bool
  | 0=>powF fa n l
  | m+1=>fun i j=>outF fa n l m i j||powF fa n (l+(m+1)) i j
def timesT (fa:Nat→Nat→Bool) (n l:Nat) (hi:Int):Nat→Nat→Bool:=if hi<0 then thenF (powF fa n l) (anyTo fa n n) n else outF fa n l (hi.toNat-l)
theorem TabAt.tin {w:World} {E B:TypeId} {base g n:Nat} {r:Nat→Nat} {f:Nat→Nat→Bool} (h:TabAt w E B base g n r f):TabIn w E B g n f:=⟨r,h.lower (Nat.zero_le _)⟩
def Own (w:World) (base g n:Nat) (f:Nat→Nat→Bool):Prop:=∃r,TabAt w 51 4 base g n r f
theorem Own.tin {w:World} {base g n:Nat} {f:Nat→Nat→Bool} (h:Own w base g n f):TIn w g n f:=by obtain ⟨r,h⟩:=h;exact h.tin
theorem Own.next {w w':World} {base g n:Nat} {f:Nat→Nat→Bool} (h:Own w base g n f) (hb:Below w.heap.size w w'):Own w' base g n f:=by obtain ⟨r,h⟩:=h;exact ⟨r,h.next hb⟩
theorem Own.of {w:World} {base base' g n:Nat} {r:Nat→Nat} {f:Nat→Nat→Bool} (h:TabAt w 51 4 base g n r f) (hb:base'≤base):Own w base' g n f:=⟨r,h.lower hb⟩
theorem refAny (n ga:Nat) (fa:Nat→Nat→Bool) (hn:n≤1000) (w:World) (ha:TIn w ga n fa) :
    Calls Tryz.prog 30 #[.slice (some ⟨ga,0,none⟩) n n] w (Tabled w n (anyTo fa n n)):=by
  have HA:=Lib.hid ha
  clear ha
  go_enter Tryz.func30,Tryz.ntmps30
  go_wp2_with fail
  refine (refOne n hn _).mono ?_
  rintro e w1 ⟨g1,r1,rfl,hT1,hb1⟩
  have HT1:Hid (Own w1 w.heap.size g1 n (anyTo fa n 0)):=Own.of (hT1.congr (fun _ _ _ _=>rfl)) (Nat.le_refl _)
  have HB1:=Lib.hid hb1
  clear hT1 hb1
  go_wp2_with fail
  go_loopw [3,9] (fun t x wr=>∃(k gt:Nat),k≤n∧x=.int .i64 k∧t=.slice (some ⟨gt,0,none⟩) n n∧Hid (Own wr w.heap.size gt n (anyTo fa n k))∧Hid (Below w.heap.size w wr)) (fun _ x _=>n-(intOf x).toNat)
  case atStart=>exact ⟨0,g1,Nat.zero_le _,rfl,rfl,HT1,HB1⟩
  case round =>
    obtain ⟨k,gt,hk,rfl,rfl,hT,hB⟩:=hrel
    by_cases hlt:k<n
    · have hkn:(k:Int)<(n:Int):=by omega
      go_wp2_with fail
      refine (refThen n gt ga (anyTo fa n k) fa hn _ hT.out.tin (HA.out.next hB.out)).mono ?_
      rintro e w3 ⟨g3,r3,rfl,hT3,hb3⟩
      have HT:=Lib.hid (hT.out.next hb3)
      have HB:=Lib.hid (hB.out.trans (hb3.mono hB.out.size))
      have HT3:=Lib.hid hT3.tin
      clear hT3 hb3
      go_wp2_with fail
      refine (refEither n gt g3 (anyTo fa n k) (thenF (anyTo fa n k) fa n) hn _ HT.out.tin HT3.out).mono ?_
      rintro e w4 ⟨g4,r4,rfl,hT4,hb4⟩
      have HB4:=Lib.hid (HB.out.trans (hb4.mono HB.out.size))
      have HT4:Hid (Own w4 w.heap.size g4 n (anyTo fa n (k+1))):=Own.of hT4 HB.out.size
      clear hT4 hb4
      go_wp2_with fail
      exact ⟨⟨k+1,g4,by omega,by go_num,rfl,HT4,HB4⟩,by simp[intOf];omega⟩
    · obtain rfl:k=n:=by omega
      go_wp2_with fail
      go_ret
      obtain ⟨r,h⟩:=hT.out
      exact ⟨gt,r,rfl,h,hB.out⟩
theorem refTimes (n ga l:Nat) (fa:Nat→Nat→Bool) (t:Tr) (hn:n≤1000) (hl:t.lo=(l:Int)) (hl20:l≤1000) (hh:t.hi≤1000) (w:World) (ha:TIn w ga n fa) :
    Calls Tryz.prog 32 #[.agg t.cs.toArray,.slice (some ⟨ga,0,none⟩) n n] w (Tabled w n (timesT fa n l t.hi)):=by
  have HA:=Lib.hid ha
  clear ha
  have hA0:At (w.alloc (Obj.cells t.cs.toArray 27)) w.heap.size 27 t.cs.toArray:=At.new _ _ _
  have hB0:Below w.heap.size w (w.alloc (Obj.cells t.cs.toArray 27)):=(Below.refl _ _).alloc (Nat.le_refl _) _
  obtain ⟨hi,hhi⟩:∃hi:Int,t.hi=hi:=⟨_,rfl⟩
  rw[hhi] at hh ⊢
  have HL:=Lib.hid hl
  have HH:=Lib.hid hhi
  clear hl hhi
  go_enter Tryz.func32,Tryz.ntmps32
  go_wp2_with fail
  refine (refOne n hn _).mono ?_
  rintro e w1 ⟨g1,r1,rfl,hT1,hb1⟩
  have HAt:=Lib.hid (hA0.step hb1 rfl)
  have HB1:=Lib.hid (below_step hB0 hb1 rfl rfl rfl rfl)
  have HT1:Hid (Own w1 w.heap.size g1 n (powF fa n 0)):=Own.of (hT1.congr (fun _ _ _ _=>rfl)) (by simp)
  clear hT1 hb1 hA0 hB0
  have c2:=(At.tr_cell HAt.out).2.2.1
  rw[HL.out] at c2
  go_wp2_with fail
  clear c2
  go_loopw [5,13] (fun tv x wr=>∃(k gt:Nat),k≤l∧x=.int .i64 k∧tv=.slice (some ⟨gt,0,none⟩) n n∧Hid (Own wr w.heap.size gt n (powF fa n k))∧Hid (At wr w.heap.size 27 t.cs.toArray)∧Hid (Below w.heap.size w wr)) (fun _ x _=>l-(intOf x).toNat)
  case atStart=>exact ⟨0,g1,Nat.zero_le _,rfl,rfl,HT1,HAt,HB1⟩
  case round =>
    clear HT1 HAt HB1
    obtain ⟨k,gt,hk,rfl,rfl,hT,hAt,hB⟩:=hrel
    by_cases hlt:k<l
    · have hkn:(k:Int)<(l:Int):=by omega
      go_wp2_with fail
      refine (refThen n gt ga (powF fa n k) fa hn _ hT.out.tin (HA.out.next hB.out)).mono ?_
      rintro e w3 ⟨g3,r3,rfl,hT3,hb3⟩
      have HAt:=Lib.hid (hAt.out.step hb3 rfl)
      have HB:=Lib.hid (hB.out.trans (hb3.mono hB.out.size))
      have HT3:Hid (Own w3 w.heap.size g3 n (powF fa n (k+1))):=Own.of hT3 hB.out.size
      clear hT3 hb3
      go_wp2_with fail
      exact ⟨⟨k+1,g3,by omega,by go_num,rfl,HT3,HAt,HB⟩,by simp[intOf];omega⟩
    · obtain rfl:k=l:=by omega
      have c2:=(At.tr_cell hAt.out).2.2.1
      rw[HL.out] at c2
      have c3:=(At.tr_cell hAt.out).2.2.2.1
      rw[HH.out] at c3
      by_cases hneg:hi<0
      · have hd:=dec_t hneg
        have HF:Hid (timesT fa n k hi=thenF (powF fa n k) (anyTo fa n n) n):=by unfold timesT;rw[if_pos hneg];exact rfl
        go_wp2_with fail
        refine (refAny n ga fa hn _ (HA.out.next hB.out)).mono ?_
        rintro e w3 ⟨g3,r3,rfl,hT3,hb3⟩
        have HB:=Lib.hid (hB.out.trans (hb3.mono hB.out.size))
        have HT:=Lib.hid (hT.out.next hb3)
        have HT3:=Lib.hid hT3.tin
        clear hT3 hb3 c2 c3
        go_wp2_with fail
        refine (refThen n gt g3 (powF fa n k) (anyTo fa n n) hn _ HT.out.tin HT3.out).mono ?_
        rintro e w4 ⟨g4,r4,rfl,hT4,hb4⟩
        have HB4:=Lib.hid (HB.out.trans (hb4.mono HB.out.size))
        have HT4:=Lib.hid (hT4.lower HB.out.size)
        clear hT4 hb4
        go_wp2_with fail
        go_ret
        exact ⟨g4,r4,rfl,by rw[HF.out];exact HT4.out,HB4.out⟩
      · have hd:=dec_f hneg
        have HF:Hid (timesT fa n k hi=outF fa n k (hi.toNat-k)):=by unfold timesT;rw[if_neg hneg];exact rfl
        obtain ⟨h,hhe⟩:∃h:Nat,hi=(h:Int):=⟨hi.toNat,by omega⟩
        subst hhe
        go_wp2_with fail
        clear c2 c3
        go_loopw [5,6,7] (fun tv ov x wr=>∃(m gt go:Nat),(k+m≤h∨m=0)∧x=.int .i64 ((k+m:Nat):Int)∧tv=.slice (some ⟨gt,0,none⟩) n n∧ov=.slice (some ⟨go,0,none⟩) n n∧Hid (Own wr w.heap.size gt n (powF fa n (k+m)))∧Hid (Own wr w.heap.size go n (outF fa n k m))∧Hid (At wr w.heap.size 27 t.cs.toArray)∧Hid (Below w.heap.size w wr)) (fun _ _ x _=>2001-(intOf x).toNat)
        case atStart=>exact ⟨0,gt,gt,.inr rfl,rfl,rfl,rfl,hT,hT,hAt,hB⟩
        case round =>
          clear hT hAt hB
          obtain ⟨m,gt,go,hm,rfl,rfl,rfl,hT,hO,hAt,hB⟩:=hrel
          have c3:=(At.tr_cell hAt.out).2.2.2.1
          rw[HH.out] at c3
          obtain ⟨x,hx⟩:∃x:Nat,k+m=x:=⟨_,rfl⟩
          have HX:=Lib.hid hx
          rw[hx]
          by_cases hlt2:x<h
          · have hkn:(x:Int)<(h:Int):=by omega
            have hkd:decide ((x:Int)<(h:Int))=true:=dec_t hkn
            clear hx
            go_wp2_with fail
            refine (refThen n gt ga (powF fa n (k+m)) fa hn _ hT.out.tin (HA.out.next hB.out)).mono ?_
            rintro e w3 ⟨g3,r3,rfl,hT3,hb3⟩
            have HAt:=Lib.hid (hAt.out.step hb3 rfl)
            have HB:=Lib.hid (hB.out.trans (hb3.mono hB.out.size))
            have HO:=Lib.hid (hO.out.next hb3)
            have HT3:Hid (Own w3 w.heap.size g3 n (powF fa n (k+(m+1)))):=Own.of hT3 hB.out.size
            clear hT3 hb3 c3
            go_wp2_with fail
            refine (refEither n go g3 (outF fa n k m) (powF fa n (k+(m+1))) hn _ HO.out.tin HT3.out.tin).mono ?_
            rintro e w4 ⟨g4,r4,rfl,hT4,hb4⟩
            have HAt4:=Lib.hid (HAt.out.step hb4 rfl)
            have HB4:=Lib.hid (HB.out.trans (hb4.mono HB.out.size))
            have HT5:=Lib.hid (HT3.out.next hb4)
            have HO4:Hid (Own w4 w.heap.size g4 n (outF fa n k (m+1))):=Own.of hT4 HB.out.size
            clear hT4 hb4
            go_wp2_with fail
            exact ⟨⟨m+1,g3,g4,by have:=HX.out;omega,by rw[←HX.out];go_num,rfl,rfl,HT5,HO4,HAt4,HB4⟩,by simp[intOf];omega⟩
          · have hkd:decide ((x:Int)<(h:Int))=false:=dec_f (by omega)
            have hkn:¬(x:Int)<(h:Int):=by omega
            have hme:m=h-k:=by omega
            clear hx
            go_wp2_with fail
            go_ret
            obtain ⟨r,hh2⟩:=hO.out
            exact ⟨go,r,rfl,by rw[HF.out];rw[hme] at hh2;exact hh2,hB.out⟩
end Go.Proofs.YtgmpfnfomgadeaaGreat
