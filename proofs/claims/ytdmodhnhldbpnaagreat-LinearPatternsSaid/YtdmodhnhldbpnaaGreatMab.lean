/- Joined: One, Then, Either, Both, Any. -/
import Derived.Test.YtdmodhnhldbpnaaGreatProg
import Derived.Test.YtdmodhnhldbpnaaGreatMaa
import Derived.BigRegion
import Derived.BigQuiet
import Derived.Test.YtdmodhnhldbpnaaGreatAid
/- What the reference's One and Other answer. -/
set_option linter.unusedVariables false
set_option maxHeartbeats 8000000
set_option maxRecDepth 100000
namespace Go.Proofs.YtdmodhnhldbpnaaGreat
section
open Go.RowKit
theorem zmB (n:Nat) (hn:n<=1000) (w:World) :
  Calls Tryz.prog 29 #[.int .i64 n] w (zcq w n (fun i j=>decide (i=j))):=by
 go_enter Tryz.func29,Tryz.ntmps29
 go_wp2_with fail
 refine (zcQ n hn _).mono ?_
 rintro e w1 ⟨rfl,ht1,hb1⟩
 obtain ⟨g,hg⟩:∃g,g=w.heap.size:=⟨_,rfl⟩
 obtain ⟨r,hr⟩:∃r:Nat->Nat,r=(fun i=>w.heap.size+1+i):=⟨_,rfl⟩
 rw[<-hr] at ht1
 clear hr
 have hT1:Hid (zau w1 41 4 w.heap.size g n r (fun i' j'=>decide (i'=j'/\i'<0))):=by rw[hg];exact ht1.congr (fun i j _ _=>by simp)
 have HB1:=zqh hb1
 clear ht1 hb1
 rw[<-hg]
 clear hg
 go_wp2_with fail
 go_loopw [9] (fun x wr=>∃i:Nat,i<=n/\x=.int .i64 i/\Hid (zau wr 41 4 w.heap.size g n r (fun i' j'=>decide (i'=j'/\i'<i)))/\Hid (Below w.heap.size w wr)) (fun x _=>n-(intOf x).toNat)
 case atStart=>exact ⟨0,qK _,rfl,hT1,HB1⟩
 case round =>
  obtain ⟨i,hi,rfl,hT,hB⟩:=hrel
  by_cases hlt:i<n
  ·have hi0:(0:Int)<=(i:Int):=by omega
   have hin:(i:Int)<(n:Int):=by omega
   have q5:=hT.out.cellTop hlt
   have q6:=hT.out.cellRow hlt hlt
   have q7:=hT.out.freeRow hlt i
   go_wp2_with fail
   refine ⟨⟨i+1,by omega,by go_num,?_,?_⟩,by simp[intOf];omega⟩
   ·exact zqh ((hT.out.put i hlt true).congr (fun i' j' _ _=>by
     by_cases e:i'=i/\j'=i
     ·obtain ⟨rfl,rfl⟩:=e;simp
     ·rw[if_neg e,qZ];simp only[qY];omega))
   ·exact zqh (hB.out.setCell (by have:=(hT.out.rlow i hlt).1;exact this) _)
  ·obtain rfl:i=n:=by omega
   go_wp2_with fail
   go_ret
   exact ⟨g,r,rfl,hT.out.congr (fun i' j' h1 _=>by rw[qZ];simp only[qY];omega),hB.out⟩
def zaW (fa:Nat->Nat->Bool) (i j:Nat):Bool:=decide (i<=j)&&!fa i j
theorem zlr {fa:Nat->Nat->Bool} {i j:Nat} (h:j<i):zaW fa i j=false:=by unfold zaW;rw[qE (by omega),yC]
theorem zeR {fa:Nat->Nat->Bool} {i j:Nat} (h:i<=j):zaW fa i j=!fa i j:=by unfold zaW;rw[qD h,jS]
theorem zkp (n ga:Nat) (fa:Nat->Nat->Bool) (hn:n<=1000) (w:World) (ha:TIn w ga n fa) :
  Calls Tryz.prog 34 #[.slice (some ⟨ga,0,none⟩) n n] w (zcq w n (zaW fa)):=by
 obtain ⟨ra,ha⟩:=ha
 have HA:=zqh ha
 clear ha
 go_enter Tryz.func34,Tryz.ntmps34
 go_wp2_with fail
 refine (zcQ n hn _).mono ?_
 rintro e w1 ⟨rfl,ht1,hb1⟩
 obtain ⟨g,hg⟩:∃g,g=w.heap.size:=⟨_,rfl⟩
 obtain ⟨r,hr⟩:∃r:Nat->Nat,r=(fun i=>w.heap.size+1+i):=⟨_,rfl⟩
 rw[<-hr] at ht1
 clear hr
 have hT1:Hid (zau w1 41 4 w.heap.size g n r (zbk (zaW fa) 0 0)):=by rw[hg];exact ht1.fillStart
 have HB1:=zqh hb1
 clear ht1 hb1
 rw[<-hg]
 clear hg
 go_wp2_with fail
 go_loopw [11] (fun x wr=>∃i:Nat,i<=n/\x=.int .i64 i/\Hid (zau wr 41 4 w.heap.size g n r (zbk (zaW fa) i 0))/\Hid (Below w.heap.size w wr)) (fun x _=>n-(intOf x).toNat)
 case atStart=>exact ⟨0,qK _,rfl,hT1,HB1⟩
 case round =>
  obtain ⟨i,hi,rfl,hT,hB⟩:=hrel
  by_cases hlt:i<n
  ·have hd1:decide ((i:Int)<(n:Int))=true:=za6 (by omega)
   have hd2:(i:Int)<(n:Int):=by omega
   have hi0:(0:Int)<=(i:Int):=by omega
   go_wp2_with fail
   go_loopw [5] (fun x wr=>∃j:Nat,i<=j/\j<=n/\x=.int .i64 j/\Hid (zau wr 41 4 w.heap.size g n r (zbk (zaW fa) i j))/\Hid (Below w.heap.size w wr)) (fun x _=>n-(intOf x).toNat)
   case atStart=>exact ⟨i,qL _,hi,rfl,zqh (hT.out.fillSkip (fun j' hj'=>zlr hj')),hB⟩
   case round =>
    clear hT hB
    obtain ⟨j,hij,hj,rfl,hT,hB⟩:=hrel
    by_cases hltj:j<n
    ·have hA:=(HA.out.next hB.out)
     have q1:=hA.cellTop hlt
     have q2:=hA.cellRow hlt hltj
     have q5:=hT.out.cellTop hlt
     have q6:=hT.out.cellRow hlt hltj
     have q7:=hT.out.freeRow hlt j
     obtain ⟨old,hold⟩:∃v:Bool,zbk (zaW fa) i j i j=v:=⟨_,rfl⟩
     rw[hold] at q6
     clear hold
     have hj0:(0:Int)<=(j:Int):=by omega
     have hjn:(j:Int)<(n:Int):=by omega
     have hdj:decide ((j:Int)<(n:Int))=true:=za6 hjn
     clear hA
     go_wp2_with fail
     go_region
     go_wp2_with fail
     go_roundw
     case rel=>exact ⟨j+1,by omega,by omega,by go_num,zqh (zau.drew (hT.out.fillStep hlt (by rw[zeR hij]))),zqh (yF (hB.out.setCell (by have:=(hT.out.rlow i hlt).1;exact this) _))⟩
     case measure=>simp[intOf];omega
    ·obtain rfl:j=n:=by omega
     go_wp2_with fail
     go_roundw
     case rel=>exact ⟨i+1,by omega,by go_num,zqh hT.out.fillRow,hB⟩
     case measure=>simp[intOf];omega
  ·obtain rfl:i=n:=by omega
   go_wp2_with fail
   go_ret
   exact ⟨g,r,rfl,hT.out.fillEnd,hB.out⟩
end

section
open Go.RowKit
def zbv (fa fb:Nat->Nat->Bool) (i k j:Nat):Bool:=(List.range k).any (fun m=>decide (i<=m/\m<=j)&&(fa i m&&fb m j))
def zaF (fa fb:Nat->Nat->Bool) (n i j:Nat):Bool:=zbv fa fb i n j
section
variable {fa fb:Nat->Nat->Bool} {i k j n i' j':Nat}
theorem zdi:zbv fa fb i (k+1) j=(zbv fa fb i k j||(decide (i<=k/\k<=j)&&(fa i k&&fb k j))):=by
 unfold zbv;rw[kF,yX];simp
theorem zhi:zbv fa fb i i j=false:=by
 unfold zbv;rw[List.any_eq_false]
 intro m hm
 have:m<i:=by simpa using hm
 rw[qE (by omega)];simp
theorem zjD (h:fa i k=false):zbv fa fb i (k+1) j=zbv fa fb i k j:=by rw[zdi,h];simp
def zcH (fa fb:Nat->Nat->Bool) (n i k:Nat) (i' j':Nat):Bool:=if i'<i then zaF fa fb n i' j' else if i'=i then zbv fa fb i k j' else false
def zcv (fa fb:Nat->Nat->Bool) (n i k j:Nat) (i' j':Nat):Bool:=if i'=i/\k<=j'/\j'<j then zbv fa fb i k j'||fb k j' else zcH fa fb n i k i' j'
theorem zdE:zcH fa fb n i i i' j'=if i'<i then zaF fa fb n i' j' else false:=by
 unfold zcH
 by_cases h:i'<i
 ·rw[if_pos h,if_pos h]
 ·rw[if_neg h,if_neg h]
  by_cases e:i'=i
  ·rw[if_pos e,zhi]
  ·rw[if_neg e]
theorem zjE:zcH fa fb n i n i' j'=if i'<i+1 then zaF fa fb n i' j' else false:=by
 unfold zcH
 by_cases h:i'<i
 ·rw[if_pos h,if_pos (by omega)]
 ·rw[if_neg h]
  by_cases e:i'=i
  ·subst e;rw[if_pos rfl,if_pos (by omega)];rfl
  ·rw[if_neg e,if_neg (by omega)]
theorem zmC (h:fa i k=false):zcH fa fb n i (k+1) i' j'=zcH fa fb n i k i' j':=by unfold zcH;rw[zjD h]
theorem zeS:zcv fa fb n i k k i' j'=zcH fa fb n i k i' j':=by unfold zcv;rw[if_neg (by omega)]
theorem zjF (hik:i<=k) (h:fa i k=true) (hj:j'<n):zcv fa fb n i k n i' j'=zcH fa fb n i (k+1) i' j':=by
 unfold zcv zcH
 by_cases e:i'=i
 ·subst e
  by_cases hk:k<=j'
  ·rw[if_pos ⟨rfl,hk,hj⟩,if_neg (jM _),if_pos rfl,zdi,h,qD ⟨hik,hk⟩];simp
  ·rw[if_neg (by omega),if_neg (jM _),if_pos rfl,if_neg (jM _),if_pos rfl,zdi,qE (by omega)];simp
 ·rw[if_neg (fun q=>e q.1),if_neg e,if_neg e]
theorem zls (hk:k<=j):zcv fa fb n i k j i j=zbv fa fb i k j:=by
 unfold zcv zcH
 rw[if_neg (by omega),if_neg (jM _),if_pos rfl]
theorem zfX (hk:k<=j):(if i'=i/\j'=j then zbv fa fb i k j||fb k j else zcv fa fb n i k j i' j')=zcv fa fb n i k (j+1) i' j':=by
 by_cases e:i'=i/\j'=j
 ·obtain ⟨rfl,rfl⟩:=e
  unfold zcv
  rw[if_pos ⟨rfl,rfl⟩,if_pos ⟨rfl,hk,by omega⟩]
 ·rw[if_neg e]
  unfold zcv
  by_cases c:i'=i/\k<=j'/\j'<j
  ·rw[if_pos c,if_pos ⟨c.1,c.2.1,by omega⟩]
  ·rw[if_neg c,if_neg (by omega)]
end
theorem zgv (n ga gb:Nat) (fa fb:Nat->Nat->Bool) (hn:n<=1000) (w:World) (ha:TIn w ga n fa) (hb:TIn w gb n fb) :
  Calls Tryz.prog 31 #[.slice (some ⟨ga,0,none⟩) n n,.slice (some ⟨gb,0,none⟩) n n] w (zcq w n (zaF fa fb n)):=by
 obtain ⟨ra,ha⟩:=ha
 obtain ⟨rb,hb⟩:=hb
 have HA:=zqh ha
 have HB:=zqh hb
 clear ha hb
 go_enter Tryz.func31,Tryz.ntmps31
 go_wp2_with fail
 refine (zcQ n hn _).mono ?_
 rintro e w1 ⟨rfl,ht1,hb1⟩
 obtain ⟨g,hg⟩:∃g,g=w.heap.size:=⟨_,rfl⟩
 obtain ⟨r,hr⟩:∃r:Nat->Nat,r=(fun i=>w.heap.size+1+i):=⟨_,rfl⟩
 rw[<-hr] at ht1
 clear hr
 have hT1:Hid (zau w1 41 4 w.heap.size g n r (zcH fa fb n 0 0)):=by rw[hg];exact ht1.congr (fun i' j' _ _=>by rw[zdE,if_neg (jD _)])
 have HB1:=zqh hb1
 clear ht1 hb1
 rw[<-hg]
 clear hg
 go_wp2_with fail
 go_loopw [14] (fun x wr=>∃i:Nat,i<=n/\x=.int .i64 i/\Hid (zau wr 41 4 w.heap.size g n r (zcH fa fb n i i))/\Hid (Below w.heap.size w wr)) (fun x _=>n-(intOf x).toNat)
 case atStart=>exact ⟨0,qK _,rfl,hT1,HB1⟩
 case round =>
  obtain ⟨i,hi,rfl,hT,hB⟩:=hrel
  by_cases hlt:i<n
  ·have hd1:decide ((i:Int)<(n:Int))=true:=za6 (by omega)
   have hd2:(i:Int)<(n:Int):=by omega
   have hi0:(0:Int)<=(i:Int):=by omega
   go_wp2_with fail
   go_loopw [7] (fun x wr=>∃k:Nat,i<=k/\k<=n/\x=.int .i64 k/\Hid (zau wr 41 4 w.heap.size g n r (zcH fa fb n i k))/\Hid (Below w.heap.size w wr)) (fun x _=>n-(intOf x).toNat)
   case atStart=>exact ⟨i,qL _,hi,rfl,hT,hB⟩
   case round =>
    clear hT hB
    obtain ⟨k,hik,hk,rfl,hT,hB⟩:=hrel
    by_cases hltk:k<n
    ·have hdk:decide ((k:Int)<(n:Int))=true:=za6 (by omega)
     have hdk2:(k:Int)<(n:Int):=by omega
     have hk0:(0:Int)<=(k:Int):=by omega
     obtain ⟨x,hx⟩:∃x:Bool,fa i k=x:=⟨_,rfl⟩
     have HX:=zqh hx
     clear hx
     have hT2:Hid (zau wr 41 4 w.heap.size g n r (zcv fa fb n i k k)):=hT.out.congr (fun i' j' _ _=>zeS.symm)
     go_wp2_with fail
     go_loopw [8] (fun x wr=>∃j:Nat,k<=j/\j<=n/\(fa i k=false->j=k)/\x=.int .i64 j/\Hid (zau wr 41 4 w.heap.size g n r (zcv fa fb n i k j))/\Hid (Below w.heap.size w wr)) (fun x _=>n-(intOf x).toNat)
     case atStart=>exact ⟨k,qL _,hk,fun _=>rfl,rfl,hT2,hB⟩
     case round =>
      clear hT hB hT2
      obtain ⟨j,hkj,hj,hjk,rfl,hT,hB⟩:=hrel
      have HJK:=zqh hjk
      clear hjk
      by_cases hltj:j<n
      ·have hA:=(HA.out.next hB.out)
       have hBb:=(HB.out.next hB.out)
       have q1:=hA.cellTop hlt
       have q2:=hA.cellRow hlt hltk
       rw[HX.out] at q2
       have q3:=hBb.cellTop hltk
       have q4:=hBb.cellRow hltk hltj
       have q5:=hT.out.cellTop hlt
       have q6:=hT.out.cellRow hlt hltj
       rw[zls hkj] at q6
       have q7:=hT.out.freeRow hlt j
       have hj0:(0:Int)<=(j:Int):=by omega
       have hjn:(j:Int)<(n:Int):=by omega
       have hdj:decide ((j:Int)<(n:Int))=true:=za6 hjn
       clear hA hBb
       cases x
       ·
        go_wp2_with fail
        go_roundw
        case rel=>exact ⟨k+1,by omega,by omega,by go_num,zqh (hT.out.congr (fun i' j' _ _=>by rw[HJK.out HX.out,zeS,zmC HX.out])),hB⟩
        case measure=>simp[intOf];omega
       ·obtain ⟨y,hy⟩:∃y:Bool,zbv fa fb i k j=y:=⟨_,rfl⟩
        obtain ⟨z,hz⟩:∃z:Bool,fb k j=z:=⟨_,rfl⟩
        rw[hy] at q6
        rw[hz] at q4
        have HY:=zqh hy
        have HZ:=zqh hz
        clear hy hz
        cases y
        ·go_wp2_with fail
         go_region
         go_wp2_with fail
         go_roundw
         case rel=>exact ⟨j+1,by omega,by omega,(fun h=>by rw[HX.out] at h;cases h),by go_num,zqh (zau.drew ((hT.out.put j hlt z).congr (fun i' j' _ _=>by rw[<-zfX hkj,HY.out,HZ.out,gK]))),zqh (yF (hB.out.setCell (by have:=(hT.out.rlow i hlt).1;exact this) _))⟩
         case measure=>simp[intOf];omega
        ·go_wp2_with fail
         go_region
         go_wp2_with fail
         go_roundw
         case rel=>exact ⟨j+1,by omega,by omega,(fun h=>by rw[HX.out] at h;cases h),by go_num,zqh (zau.drew ((hT.out.put j hlt true).congr (fun i' j' _ _=>by rw[<-zfX hkj,HY.out,Bool.true_or]))),zqh (yF (hB.out.setCell (by have:=(hT.out.rlow i hlt).1;exact this) _))⟩
         case measure=>simp[intOf];omega
      ·obtain rfl:j=n:=by omega
       have hdj:decide ((j:Int)<(j:Int))=false:=za0 (by omega)
       go_wp2_with fail
       go_roundw
       case rel =>
        refine ⟨k+1,by omega,by omega,by go_num,zqh (hT.out.congr (fun i' j' _ hj'=>?_)),hB⟩
        cases x
        ·exact absurd (HJK.out HX.out) (by omega)
        ·exact zjF hik HX.out hj'
       case measure=>simp[intOf];omega
    ·obtain rfl:k=n:=by omega
     go_wp2_with fail
     go_roundw
     case rel=>exact ⟨i+1,by omega,by go_num,zqh (hT.out.congr (fun i' j' _ _=>by rw[zjE,zdE])),hB⟩
     case measure=>simp[intOf];omega
  ·obtain rfl:i=n:=by omega
   go_wp2_with fail
   go_ret
   exact ⟨g,r,rfl,hT.out.congr (fun i' j' h1 _=>by rw[zdE,if_pos h1]),hB.out⟩
end

section
open Go.RowKit
theorem zgw (n ga gb:Nat) (fa fb:Nat->Nat->Bool) (hn:n<=1000) (w:World) (ha:TIn w ga n fa) (hb:TIn w gb n fb) :
  Calls Tryz.prog 32 #[.slice (some ⟨ga,0,none⟩) n n,.slice (some ⟨gb,0,none⟩) n n] w (zcq w n (fun i j=>fa i j||fb i j)):=by
 obtain ⟨ra,ha⟩:=ha
 obtain ⟨rb,hb⟩:=hb
 have HA:=zqh ha
 have HB:=zqh hb
 clear ha hb
 go_enter Tryz.func32,Tryz.ntmps32
 go_wp2_with fail
 refine (zcQ n hn _).mono ?_
 rintro e w1 ⟨rfl,ht1,hb1⟩
 obtain ⟨g,hg⟩:∃g,g=w.heap.size:=⟨_,rfl⟩
 obtain ⟨r,hr⟩:∃r:Nat->Nat,r=(fun i=>w.heap.size+1+i):=⟨_,rfl⟩
 rw[<-hr] at ht1
 clear hr
 have hT1:Hid (zau w1 41 4 w.heap.size g n r (zbk (fun i j=>fa i j||fb i j) 0 0)):=by rw[hg];exact ht1.fillStart
 have HB1:=zqh hb1
 clear ht1 hb1
 rw[<-hg]
 clear hg
 go_wp2_with fail
 go_loopw [13] (fun x wr=>∃i:Nat,i<=n/\x=.int .i64 i/\Hid (zau wr 41 4 w.heap.size g n r (zbk (fun i j=>fa i j||fb i j) i 0))/\Hid (Below w.heap.size w wr)) (fun x _=>n-(intOf x).toNat)
 case atStart=>exact ⟨0,qK _,rfl,hT1,HB1⟩
 case round =>
  obtain ⟨i,hi,rfl,hT,hB⟩:=hrel
  by_cases hlt:i<n
  ·have hd1:decide ((i:Int)<(n:Int))=true:=za6 (by omega)
   have hd2:(i:Int)<(n:Int):=by omega
   have hi0:(0:Int)<=(i:Int):=by omega
   go_wp2_with fail
   go_loopw [18] (fun x wr=>∃j:Nat,j<=n/\x=.int .i64 j/\Hid (zau wr 41 4 w.heap.size g n r (zbk (fun i j=>fa i j||fb i j) i j))/\Hid (Below w.heap.size w wr)) (fun x _=>n-(intOf x).toNat)
   case atStart=>exact ⟨0,qK _,rfl,hT,hB⟩
   case round =>
    clear hT hB
    obtain ⟨j,hj,rfl,hT,hB⟩:=hrel
    by_cases hltj:j<n
    ·have hA:=(HA.out.next hB.out)
     have hBb:=(HB.out.next hB.out)
     have q1:=hA.cellTop hlt
     have q2:=hA.cellRow hlt hltj
     have q3:=hBb.cellTop hlt
     have q4:=hBb.cellRow hlt hltj
     have q5:=hT.out.cellTop hlt
     have q6:=hT.out.cellRow hlt hltj
     have q7:=hT.out.freeRow hlt j
     obtain ⟨old,hold⟩:∃v:Bool,zbk (fun i j=>fa i j||fb i j) i j i j=v:=⟨_,rfl⟩
     simp only[hold] at q6
     clear hold
     have hj0:(0:Int)<=(j:Int):=by omega
     have hjn:(j:Int)<(n:Int):=by omega
     clear hA hBb
     obtain ⟨x,hx⟩:∃x:Bool,fa i j=x:=⟨_,rfl⟩
     obtain ⟨y,hy⟩:∃y:Bool,fb i j=y:=⟨_,rfl⟩
     rw[hx] at q2
     rw[hy] at q4
     have HX:=zqh hx
     have HY:=zqh hy
     clear hx hy
     cases x
     ·go_wp2_with fail
      go_region
      go_wp2_with fail
      go_roundw
      case rel=>exact ⟨j+1,by omega,by go_num,zqh (zau.drew (hT.out.fillStep hlt (by rw[HX.out,HY.out];rfl))),zqh (yF (hB.out.setCell (by have:=(hT.out.rlow i hlt).1;exact this) _))⟩
      case measure=>simp[intOf];omega
     ·go_wp2_with fail
      go_region
      go_wp2_with fail
      go_roundw
      case rel=>exact ⟨j+1,by omega,by go_num,zqh (zau.drew (hT.out.fillStep hlt (by rw[HX.out,HY.out];rfl))),zqh (yF (hB.out.setCell (by have:=(hT.out.rlow i hlt).1;exact this) _))⟩
      case measure=>simp[intOf];omega
    ·obtain rfl:j=n:=by omega
     go_wp2_with fail
     go_roundw
     case rel=>exact ⟨i+1,by omega,by go_num,zqh hT.out.fillRow,hB⟩
     case measure=>simp[intOf];omega
  ·obtain rfl:i=n:=by omega
   go_wp2_with fail
   go_ret
   exact ⟨g,r,rfl,hT.out.fillEnd,hB.out⟩
end

section
open Go.RowKit
theorem zrm (n ga gb:Nat) (fa fb:Nat->Nat->Bool) (hn:n<=1000) (w:World) (ha:TIn w ga n fa) (hb:TIn w gb n fb) :
  Calls Tryz.prog 33 #[.slice (some ⟨ga,0,none⟩) n n,.slice (some ⟨gb,0,none⟩) n n] w (zcq w n (fun i j=>fa i j&&fb i j)):=by
 obtain ⟨ra,ha⟩:=ha
 obtain ⟨rb,hb⟩:=hb
 have HA:=zqh ha
 have HB:=zqh hb
 clear ha hb
 go_enter Tryz.func33,Tryz.ntmps33
 go_wp2_with fail
 refine (zcQ n hn _).mono ?_
 rintro e w1 ⟨rfl,ht1,hb1⟩
 obtain ⟨g,hg⟩:∃g,g=w.heap.size:=⟨_,rfl⟩
 obtain ⟨r,hr⟩:∃r:Nat->Nat,r=(fun i=>w.heap.size+1+i):=⟨_,rfl⟩
 rw[<-hr] at ht1
 clear hr
 have hT1:Hid (zau w1 41 4 w.heap.size g n r (zbk (fun i j=>fa i j&&fb i j) 0 0)):=by rw[hg];exact ht1.fillStart
 have HB1:=zqh hb1
 clear ht1 hb1
 rw[<-hg]
 clear hg
 go_wp2_with fail
 go_loopw [13] (fun x wr=>∃i:Nat,i<=n/\x=.int .i64 i/\Hid (zau wr 41 4 w.heap.size g n r (zbk (fun i j=>fa i j&&fb i j) i 0))/\Hid (Below w.heap.size w wr)) (fun x _=>n-(intOf x).toNat)
 case atStart=>exact ⟨0,qK _,rfl,hT1,HB1⟩
 case round =>
  obtain ⟨i,hi,rfl,hT,hB⟩:=hrel
  by_cases hlt:i<n
  ·have hd1:decide ((i:Int)<(n:Int))=true:=za6 (by omega)
   have hd2:(i:Int)<(n:Int):=by omega
   have hi0:(0:Int)<=(i:Int):=by omega
   go_wp2_with fail
   go_loopw [18] (fun x wr=>∃j:Nat,j<=n/\x=.int .i64 j/\Hid (zau wr 41 4 w.heap.size g n r (zbk (fun i j=>fa i j&&fb i j) i j))/\Hid (Below w.heap.size w wr)) (fun x _=>n-(intOf x).toNat)
   case atStart=>exact ⟨0,qK _,rfl,hT,hB⟩
   case round =>
    clear hT hB
    obtain ⟨j,hj,rfl,hT,hB⟩:=hrel
    by_cases hltj:j<n
    ·have hA:=(HA.out.next hB.out)
     have hBb:=(HB.out.next hB.out)
     have q1:=hA.cellTop hlt
     have q2:=hA.cellRow hlt hltj
     have q3:=hBb.cellTop hlt
     have q4:=hBb.cellRow hlt hltj
     have q5:=hT.out.cellTop hlt
     have q6:=hT.out.cellRow hlt hltj
     have q7:=hT.out.freeRow hlt j
     obtain ⟨old,hold⟩:∃v:Bool,zbk (fun i j=>fa i j&&fb i j) i j i j=v:=⟨_,rfl⟩
     simp only[hold] at q6
     clear hold
     have hj0:(0:Int)<=(j:Int):=by omega
     have hjn:(j:Int)<(n:Int):=by omega
     clear hA hBb
     obtain ⟨x,hx⟩:∃x:Bool,fa i j=x:=⟨_,rfl⟩
     obtain ⟨y,hy⟩:∃y:Bool,fb i j=y:=⟨_,rfl⟩
     rw[hx] at q2
     rw[hy] at q4
     have HX:=zqh hx
     have HY:=zqh hy
     clear hx hy
     cases x
     ·go_wp2_with fail
      go_region
      go_wp2_with fail
      go_roundw
      case rel=>exact ⟨j+1,by omega,by go_num,zqh (zau.drew (hT.out.fillStep hlt (by rw[HX.out,HY.out];rfl))),zqh (yF (hB.out.setCell (by have:=(hT.out.rlow i hlt).1;exact this) _))⟩
      case measure=>simp[intOf];omega
     ·go_wp2_with fail
      go_region
      go_wp2_with fail
      go_roundw
      case rel=>exact ⟨j+1,by omega,by go_num,zqh (zau.drew (hT.out.fillStep hlt (by rw[HX.out,HY.out];rfl))),zqh (yF (hB.out.setCell (by have:=(hT.out.rlow i hlt).1;exact this) _))⟩
      case measure=>simp[intOf];omega
    ·obtain rfl:j=n:=by omega
     go_wp2_with fail
     go_roundw
     case rel=>exact ⟨i+1,by omega,by go_num,zqh hT.out.fillRow,hB⟩
     case measure=>simp[intOf];omega
  ·obtain rfl:i=n:=by omega
   go_wp2_with fail
   go_ret
   exact ⟨g,r,rfl,hT.out.fillEnd,hB.out⟩
end

section
open Go.RowKit
def eqF (i j:Nat):Bool:=decide (i=j)
def zbp (fa:Nat->Nat->Bool) (n:Nat):Nat->Nat->Nat->Bool
 | 0=>eqF
 | m+1=>fun i j=>zbp fa n m i j||zaF (zbp fa n m) fa n i j
def zeg (fa:Nat->Nat->Bool) (n:Nat):Nat->Nat->Nat->Bool
 | 0=>eqF
 | m+1=>zaF (zeg fa n m) fa n
def zmD (fa:Nat->Nat->Bool) (n l:Nat):Nat->Nat->Nat->Bool
 | 0=>zeg fa n l
 | m+1=>fun i j=>zmD fa n l m i j||zeg fa n (l+(m+1)) i j
def zcI (fa:Nat->Nat->Bool) (n l:Nat) (hi:Int):Nat->Nat->Bool:=if hi<0 then zaF (zeg fa n l) (zbp fa n n) n else zmD fa n l (hi.toNat-l)
theorem zau.tin {w:World} {E B:TypeId} {base g n:Nat} {r:Nat->Nat} {f:Nat->Nat->Bool} (h:zau w E B base g n r f):zmz w E B g n f:=⟨r,h.lower (qK _)⟩
def Own (w:World) (base g n:Nat) (f:Nat->Nat->Bool):Prop:=∃r,zau w 41 4 base g n r f
theorem Own.tin {w:World} {base g n:Nat} {f:Nat->Nat->Bool} (h:Own w base g n f):TIn w g n f:=by obtain ⟨r,h⟩:=h;exact h.tin
theorem Own.next {w w':World} {base g n:Nat} {f:Nat->Nat->Bool} (h:Own w base g n f) (hb:Below w.heap.size w w'):Own w' base g n f:=by obtain ⟨r,h⟩:=h;exact ⟨r,h.next hb⟩
theorem Own.of {w:World} {base base' g n:Nat} {r:Nat->Nat} {f:Nat->Nat->Bool} (h:zau w 41 4 base g n r f) (hb:base'<=base):Own w base' g n f:=⟨r,h.lower hb⟩
theorem zti (n ga:Nat) (fa:Nat->Nat->Bool) (hn:n<=1000) (w:World) (ha:TIn w ga n fa) :
  Calls Tryz.prog 35 #[.slice (some ⟨ga,0,none⟩) n n] w (zcq w n (zbp fa n n)):=by
 have HA:=zqh ha
 clear ha
 go_enter Tryz.func35,Tryz.ntmps35
 go_wp2_with fail
 refine (zmB n hn _).mono ?_
 rintro e w1 ⟨g1,r1,rfl,hT1,hb1⟩
 have HT1:Hid (Own w1 w.heap.size g1 n (zbp fa n 0)):=Own.of (hT1.congr (fun _ _ _ _=>rfl)) zqn
 have HB1:=zqh hb1
 clear hT1 hb1
 go_wp2_with fail
 go_loopw [3,9] (fun t x wr=>∃(k gt:Nat),k<=n/\x=.int .i64 k/\t=.slice (some ⟨gt,0,none⟩) n n/\Hid (Own wr w.heap.size gt n (zbp fa n k))/\Hid (Below w.heap.size w wr)) (fun _ x _=>n-(intOf x).toNat)
 case atStart=>exact ⟨0,g1,qK _,rfl,rfl,HT1,HB1⟩
 case round =>
  obtain ⟨k,gt,hk,rfl,rfl,hT,hB⟩:=hrel
  by_cases hlt:k<n
  ·have hkn:(k:Int)<(n:Int):=by omega
   go_wp2_with fail
   refine (zgv n gt ga (zbp fa n k) fa hn _ hT.out.tin (HA.out.next hB.out)).mono ?_
   rintro e w3 ⟨g3,r3,rfl,hT3,hb3⟩
   have HT:=zqh (hT.out.next hb3)
   have HB:=zqh (hB.out.trans (hb3.mono hB.out.size))
   have HT3:=zqh hT3.tin
   clear hT3 hb3
   go_wp2_with fail
   refine (zgw n gt g3 (zbp fa n k) (zaF (zbp fa n k) fa n) hn _ HT.out.tin HT3.out).mono ?_
   rintro e w4 ⟨g4,r4,rfl,hT4,hb4⟩
   have HB4:=zqh (HB.out.trans (hb4.mono HB.out.size))
   have HT4:Hid (Own w4 w.heap.size g4 n (zbp fa n (k+1))):=Own.of hT4 HB.out.size
   clear hT4 hb4
   go_wp2_with fail
   exact ⟨⟨k+1,g4,by omega,by go_num,rfl,HT4,HB4⟩,by simp[intOf];omega⟩
  ·obtain rfl:k=n:=by omega
   go_wp2_with fail
   go_ret
   obtain ⟨r,h⟩:=hT.out
   exact ⟨gt,r,rfl,h,hB.out⟩
theorem zoL (n ga l:Nat) (fa:Nat->Nat->Bool) (t:Tr) (hn:n<=1000) (hl:t.lo=(l:Int)) (hl20:l<=1000) (hh:t.hi<=1000) (w:World) (ha:TIn w ga n fa) :
  Calls Tryz.prog 53 #[.agg t.cs.toArray,.slice (some ⟨ga,0,none⟩) n n] w (zcq w n (zcI fa n l t.hi)):=by
 have HA:=zqh ha
 clear ha
 have hA0:At (w.alloc (Obj.cells t.cs.toArray 49)) w.heap.size 49 t.cs.toArray:=At.new _ _ _
 have hB0:Below w.heap.size w (w.alloc (Obj.cells t.cs.toArray 49)):=zqb
 obtain ⟨hi,hhi⟩:∃hi:Int,t.hi=hi:=⟨_,rfl⟩
 rw[hhi] at hh ⊢
 have HL:=zqh hl
 have HH:=zqh hhi
 clear hl hhi
 go_enter Tryz.func53,Tryz.ntmps53
 go_wp2_with fail
 refine (zmB n hn _).mono ?_
 rintro e w1 ⟨g1,r1,rfl,hT1,hb1⟩
 have HAt:=zqh (hA0.step hb1 rfl)
 have HB1:=zqh (zaf hB0 hb1 rfl rfl rfl rfl)
 have HT1:Hid (Own w1 w.heap.size g1 n (zeg fa n 0)):=Own.of (hT1.congr (fun _ _ _ _=>rfl)) (by simp)
 clear hT1 hb1 hA0 hB0
 have c2:=(At.tr_cell HAt.out).2.2.1
 rw[HL.out] at c2
 go_wp2_with fail
 clear c2
 go_loopw [5,13] (fun tv x wr=>∃(k gt:Nat),k<=l/\x=.int .i64 k/\tv=.slice (some ⟨gt,0,none⟩) n n/\Hid (Own wr w.heap.size gt n (zeg fa n k))/\Hid (At wr w.heap.size 49 t.cs.toArray)/\Hid (Below w.heap.size w wr)) (fun _ x _=>l-(intOf x).toNat)
 case atStart=>exact ⟨0,g1,qK _,rfl,rfl,HT1,HAt,HB1⟩
 case round =>
  clear HT1 HAt HB1
  obtain ⟨k,gt,hk,rfl,rfl,hT,hAt,hB⟩:=hrel
  by_cases hlt:k<l
  ·have hkn:(k:Int)<(l:Int):=by omega
   go_wp2_with fail
   refine (zgv n gt ga (zeg fa n k) fa hn _ hT.out.tin (HA.out.next hB.out)).mono ?_
   rintro e w3 ⟨g3,r3,rfl,hT3,hb3⟩
   have HAt:=zqh (hAt.out.step hb3 rfl)
   have HB:=zqh (hB.out.trans (hb3.mono hB.out.size))
   have HT3:Hid (Own w3 w.heap.size g3 n (zeg fa n (k+1))):=Own.of hT3 hB.out.size
   clear hT3 hb3
   go_wp2_with fail
   exact ⟨⟨k+1,g3,by omega,by go_num,rfl,HT3,HAt,HB⟩,by simp[intOf];omega⟩
  ·obtain rfl:k=l:=by omega
   have c2:=(At.tr_cell hAt.out).2.2.1
   rw[HL.out] at c2
   have c3:=(At.tr_cell hAt.out).2.2.2.1
   rw[HH.out] at c3
   by_cases hneg:hi<0
   ·have hd:=za6 hneg
    have HF:Hid (zcI fa n k hi=zaF (zeg fa n k) (zbp fa n n) n):=by unfold zcI;rw[if_pos hneg];exact rfl
    go_wp2_with fail
    refine (zti n ga fa hn _ (HA.out.next hB.out)).mono ?_
    rintro e w3 ⟨g3,r3,rfl,hT3,hb3⟩
    have HB:=zqh (hB.out.trans (hb3.mono hB.out.size))
    have HT:=zqh (hT.out.next hb3)
    have HT3:=zqh hT3.tin
    clear hT3 hb3 c2 c3
    go_wp2_with fail
    refine (zgv n gt g3 (zeg fa n k) (zbp fa n n) hn _ HT.out.tin HT3.out).mono ?_
    rintro e w4 ⟨g4,r4,rfl,hT4,hb4⟩
    have HB4:=zqh (HB.out.trans (hb4.mono HB.out.size))
    have HT4:=zqh (hT4.lower HB.out.size)
    clear hT4 hb4
    go_wp2_with fail
    go_ret
    exact ⟨g4,r4,rfl,by rw[HF.out];exact HT4.out,HB4.out⟩
   ·have hd:=za0 hneg
    have HF:Hid (zcI fa n k hi=zmD fa n k (hi.toNat-k)):=by unfold zcI;rw[if_neg hneg];exact rfl
    obtain ⟨h,hhe⟩:∃h:Nat,hi=(h:Int):=⟨hi.toNat,by omega⟩
    subst hhe
    go_wp2_with fail
    clear c2 c3
    go_loopw [5,6,7] (fun tv ov x wr=>∃(m gt go:Nat),(k+m<=h\/m=0)/\x=.int .i64 ((k+m:Nat):Int)/\tv=.slice (some ⟨gt,0,none⟩) n n/\ov=.slice (some ⟨go,0,none⟩) n n/\Hid (Own wr w.heap.size gt n (zeg fa n (k+m)))/\Hid (Own wr w.heap.size go n (zmD fa n k m))/\Hid (At wr w.heap.size 49 t.cs.toArray)/\Hid (Below w.heap.size w wr)) (fun _ _ x _=>2001-(intOf x).toNat)
    case atStart=>exact ⟨0,gt,gt,.inr rfl,rfl,rfl,rfl,hT,hT,hAt,hB⟩
    case round =>
     clear hT hAt hB
     obtain ⟨m,gt,go,hm,rfl,rfl,rfl,hT,hO,hAt,hB⟩:=hrel
     have c3:=(At.tr_cell hAt.out).2.2.2.1
     rw[HH.out] at c3
     obtain ⟨x,hx⟩:∃x:Nat,k+m=x:=⟨_,rfl⟩
     have HX:=zqh hx
     rw[hx]
     by_cases hlt2:x<h
     ·have hkn:(x:Int)<(h:Int):=by omega
      have hkd:decide ((x:Int)<(h:Int))=true:=za6 hkn
      clear hx
      go_wp2_with fail
      refine (zgv n gt ga (zeg fa n (k+m)) fa hn _ hT.out.tin (HA.out.next hB.out)).mono ?_
      rintro e w3 ⟨g3,r3,rfl,hT3,hb3⟩
      have HAt:=zqh (hAt.out.step hb3 rfl)
      have HB:=zqh (hB.out.trans (hb3.mono hB.out.size))
      have HO:=zqh (hO.out.next hb3)
      have HT3:Hid (Own w3 w.heap.size g3 n (zeg fa n (k+(m+1)))):=Own.of hT3 hB.out.size
      clear hT3 hb3 c3
      go_wp2_with fail
      refine (zgw n go g3 (zmD fa n k m) (zeg fa n (k+(m+1))) hn _ HO.out.tin HT3.out.tin).mono ?_
      rintro e w4 ⟨g4,r4,rfl,hT4,hb4⟩
      have HAt4:=zqh (HAt.out.step hb4 rfl)
      have HB4:=zqh (HB.out.trans (hb4.mono HB.out.size))
      have HT5:=zqh (HT3.out.next hb4)
      have HO4:Hid (Own w4 w.heap.size g4 n (zmD fa n k (m+1))):=Own.of hT4 HB.out.size
      clear hT4 hb4
      go_wp2_with fail
      exact ⟨⟨m+1,g3,g4,by have:=HX.out;omega,by rw[<-HX.out];go_num,rfl,rfl,HT5,HO4,HAt4,HB4⟩,by simp[intOf];omega⟩
     ·have hkd:decide ((x:Int)<(h:Int))=false:=za0 (by omega)
      have hkn:¬(x:Int)<(h:Int):=by omega
      have hme:m=h-k:=by omega
      clear hx
      go_wp2_with fail
      go_ret
      obtain ⟨r,hh2⟩:=hO.out
      exact ⟨go,r,rfl,by rw[HF.out];rw[hme] at hh2;exact hh2,hB.out⟩
end
end Go.Proofs.YtdmodhnhldbpnaaGreat
