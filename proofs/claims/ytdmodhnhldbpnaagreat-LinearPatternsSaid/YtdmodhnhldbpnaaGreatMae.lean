/- Joined: Fm, FmLess, FmFormed. -/
import Derived.Test.YtdmodhnhldbpnaaGreatProg
import Derived.Test.YtdmodhnhldbpnaaGreatMaa
import Derived.Deep.QuietTactic
import Derived.BigQuiet
import Derived.Deep.RegionHeld3
import Derived.Test.YtdmodhnhldbpnaaGreatAid
/- Formulas as data and as memory; bolterref09.has, Holds. -/
set_option linter.unusedSimpArgs false
set_option linter.unusedVariables false
set_option maxHeartbeats 16000000
set_option maxRecDepth 100000
namespace Go.Proofs.YtdmodhnhldbpnaaGreat
section
open Go.RowKit
def IsI (x:Int):Prop:=-9223372036854775808<=x/\x<=9223372036854775807
abbrev Fm:=List (List Int)
def zbi (l:List Int) (j:Nat):Int:=(l[j]?).getD 0
def za5 (f:Fm) (j:Nat):List Int:=(f[j]?).getD []
theorem zay {l:List Int} {j:Nat} (h:j<l.length):zbi l j=l[j]:=by unfold zbi;rw[qI h];rfl
theorem zaz {f:Fm} {j:Nat} (h:j<f.length):za5 f j=f[j]:=by unfold za5;rw[qI h];rfl
def zak (w:World) (v:Value) (l:List Int):Prop :=
 ∃A c,v=.slice A l.length c/\l.length<=c/\c<=9223372036854775807/\(∀x∈l,IsI x)/\(0<l.length->∃b off,A=some ⟨b,off,none⟩/\b<w.heap.size/\∀j,j<l.length->w.cell? ⟨b,off+j,none⟩=some (.int .i64 (zbi l j)))
def zcF (w:World) (v:Value) (f:Fm):Prop :=
 ∃A c,v=.slice A f.length c/\f.length<=c/\c<=9223372036854775807/\(0<f.length->∃b off,A=some ⟨b,off,none⟩/\b<w.heap.size/\∀j,j<f.length->∃u,w.cell? ⟨b,off+j,none⟩=some u/\zak w u (za5 f j))
section
variable {w w':World} {v:Value} {l:List Int} {f:Fm}
theorem zak.next (h:zak w v l) (hb:Below w.heap.size w w'):zak w' v l:=by
 obtain ⟨A,c,h1,h2,h3,h4,h5⟩:=h
 refine ⟨A,c,h1,h2,h3,h4,fun h0=>?_⟩
 obtain ⟨b,off,e,hlt,hr⟩:=h5 h0
 exact ⟨b,off,e,qM hlt hb.size,fun j hj=>((zbW hb).1 b _ hlt).trans (hr j hj)⟩
theorem zcF.next (h:zcF w v f) (hb:Below w.heap.size w w'):zcF w' v f:=by
 obtain ⟨A,c,h1,h2,h3,h5⟩:=h
 refine ⟨A,c,h1,h2,h3,fun h0=>?_⟩
 obtain ⟨b,off,e,hlt,hr⟩:=h5 h0
 refine ⟨b,off,e,qM hlt hb.size,fun j hj=>?_⟩
 obtain ⟨u,hu,hi⟩:=hr j hj
 exact ⟨u,((zbW hb).1 b _ hlt).trans hu,hi.next hb⟩
theorem zak.drewN (h:zak w v l) (q:Nat):zak (w.drewN q) v l:=h
theorem zcF.drewN (h:zcF w v f) (q:Nat):zcF (w.drewN q) v f:=h
theorem zak.at {A:Option Addr} {n c:Nat} (h:zak w (.slice A n c) l) (j:Nat) (hj:j<l.length):∃b off,A=some ⟨b,off,none⟩/\b<w.heap.size/\w.cell? ⟨b,off+j,none⟩=some (.int .i64 (zbi l j)):=by
 obtain ⟨A',c',h1,_,_,_,h5⟩:=h
 injection h1 with e1 _ _
 subst e1
 obtain ⟨b,off,e,hlt,hr⟩:=h5 (by omega)
 exact ⟨b,off,e,hlt,hr j hj⟩
theorem zcF.at {A:Option Addr} {n c:Nat} (h:zcF w (.slice A n c) f) (j:Nat) (hj:j<f.length):∃b off A2 c2,A=some ⟨b,off,none⟩/\b<w.heap.size/\w.cell? ⟨b,off+j,none⟩=some (.slice A2 (za5 f j).length c2)/\zak w (.slice A2 (za5 f j).length c2) (za5 f j):=by
 obtain ⟨A',c',h1,_,_,h5⟩:=h
 injection h1 with e1 _ _
 subst e1
 obtain ⟨b,off,e,hlt,hr⟩:=h5 (by omega)
 obtain ⟨u,hu,hi⟩:=hr j hj
 obtain ⟨A2,c2,rfl,r⟩:=id hi
 exact ⟨b,off,A2,c2,e,hlt,hu,hi⟩
theorem zak.len {A:Option Addr} {n c:Nat} (h:zak w (.slice A n c) l):n=l.length:=by obtain ⟨A',c',h1,_⟩:=h;injection h1
theorem zcF.len {A:Option Addr} {n c:Nat} (h:zcF w (.slice A n c) f):n=f.length:=by obtain ⟨A',c',h1,_⟩:=h;injection h1
theorem zak.max {A:Option Addr} {n c:Nat} (h:zak w (.slice A n c) l):l.length<=9223372036854775807:=by obtain ⟨A',c',h1,h2,h3,_⟩:=h;omega
theorem zcF.max {A:Option Addr} {n c:Nat} (h:zcF w (.slice A n c) f):f.length<=9223372036854775807:=by obtain ⟨A',c',h1,h2,h3,_⟩:=h;omega
end
theorem zcB {B:Nat} {w w':World} (h:Below B w w') (q:Nat):Below B w (w'.drewN q):=⟨h.os,h.tape,h.output,h.size,h.block⟩
theorem ziK {w w':World} {q x:Nat} (h:∃m,w'=(w.drewN (q+x)).drewN m):∃n,w'=w.drewN (q+n):=by
 obtain ⟨m,rfl⟩:=h
 exact ⟨x+m,by rw[xB,Nat.add_assoc]⟩
def ziw (l:List Int) (n:Int):Bool:=l.any (fun x=>x==n)
def zc1 (p on:List Int):Bool:=p.all (fun n=>ziw on n)
def zap (f:Fm) (on:List Int):Bool:=f.any (fun p=>zc1 p on)
theorem zew {α:Type} (l:List α) (g:α->Bool) (i:Nat) (h:i<l.length):(l.take (i+1)).any g=((l.take i).any g||g l[i]):=by
 rw[kE,qI h];simp only[Option.toList,yX,xQ,List.any_nil,Bool.or_false]
theorem zo8 {α:Type} (l:List α) (g:α->Bool) (i:Nat) (h:i<l.length):(l.take (i+1)).all g=((l.take i).all g&&g l[i]):=by
 rw[kE,qI h];simp only[Option.toList,xT,yR,gH,xR]
theorem zmT {α:Type} {l:List α} {g:α->Bool} {i:Nat} (h:i<l.length) (hg:g l[i]=true):l.any g=true:=List.any_eq_true.2 ⟨_,qG h,hg⟩
theorem zrB (l:List Int) (x:Int) (A:Option Addr) (n c:Nat) (w:World) (h:zak w (.slice A n c) l) :
  Calls Tryz.prog 92 #[.slice A n c,.int .i64 x] w fun e w'=>e=.returned (.bool (ziw l x))/\w'=w:=by
 have HI:=zqh h
 have hm:=h.max
 obtain rfl:=h.len
 clear h
 go_enter Tryz.func92,Tryz.ntmps92
 go_wp2_with fail
 go_loopw [8] (fun v wr=>∃i:Nat,i<=l.length/\v=.int .i64 i/\w=wr/\Hid ((l.take i).any (fun y=>y==x)=false)) (fun v _=>l.length-(intOf v).toNat)
 case atStart=>exact ⟨0,qK _,rfl,rfl,zqh (by simp)⟩
 case round =>
  obtain ⟨i,hi,rfl,rfl,HN⟩:=hrel
  by_cases hlt:i<l.length
  ·have h1:(0:Int)<=(i:Int):=by omega
   have h2:(i:Int)<(l.length:Int):=by omega
   obtain ⟨b,off,rfl,_,q1⟩:=HI.out.at i hlt
   have hst:=zew l (fun y=>y==x) i hlt
   rw[HN.out,gK,<-zay hlt] at hst
   obtain ⟨y,hy⟩:∃y,zbi l i=y:=⟨_,rfl⟩
   rw[hy] at q1 hst
   have HY:=zqh hy
   clear hy
   by_cases he:y=x
   ·have hbe:(y==x)=true:=by rw[he];exact beq_self_eq_true _
    go_wp2_with fail
    go_ret
    refine ⟨?_,rfl⟩
    rw[show ziw l x=true from zmT hlt (by rw[<-zay hlt,HY.out];exact hbe)];rfl
   ·have hbe:(y==x)=false:=beq_eq_false_iff_ne.2 he
    rw[hbe] at hst
    have HS:=zqh hst
    clear hst
    go_wp2_with fail
    refine ⟨⟨i+1,by omega,by go_num,by first | rfl | trivial,HS⟩,by simp[intOf];omega⟩
  ·obtain rfl:i=l.length:=by omega
   go_wp2_with fail
   go_ret
   refine ⟨?_,rfl⟩
   have:=HN.out
   rw[qQ] at this
   rw[show ziw l x=false from this];rfl
theorem ziL (f:Fm) (on:List Int) (A B:Option Addr) (n c m d:Nat) (w:World) (h:zcF w (.slice A n c) f) (h':zak w (.slice B m d) on) :
  Calls Tryz.prog 56 #[.slice A n c,.slice B m d] w fun e w'=>e=.returned (.bool (zap f on))/\w'=w:=by
 have HI:=zqh h
 have HO:=zqh h'
 have hm:=h.max
 obtain rfl:=h.len
 clear h h'
 go_enter Tryz.func56,Tryz.ntmps56
 go_wp2_with fail
 go_loopw [10] (fun v wr=>∃i:Nat,i<=f.length/\v=.int .i64 i/\w=wr/\Hid ((f.take i).any (fun p=>zc1 p on)=false)) (fun v _=>f.length-(intOf v).toNat)
 case atStart=>exact ⟨0,qK _,rfl,rfl,zqh (by simp)⟩
 case round =>
  obtain ⟨i,hi,rfl,rfl,HN⟩:=hrel
  by_cases hlt:i<f.length
  ·have h1:(0:Int)<=(i:Int):=by omega
   have h2:(i:Int)<(f.length:Int):=by omega
   obtain ⟨b,off,A2,c2,rfl,_,q1,hp⟩:=HI.out.at i hlt
   have hst:=zew f (fun p=>zc1 p on) i hlt
   rw[HN.out,gK,<-zaz hlt] at hst
   have HP:=zqh hp
   have hpm:=hp.max
   obtain ⟨p,hpe⟩:∃p,za5 f i=p:=⟨_,rfl⟩
   rw[hpe] at q1 hst HP hpm
   have HPe:=zqh hpe
   clear hp hpe
   go_wp2_with fail
   go_loopw [6,18] (fun a v wr=>∃k:Nat,k<=p.length/\v=.int .i64 k/\w=wr/\a=.bool ((p.take k).all (fun n=>ziw on n))) (fun _ v _=>p.length-(intOf v).toNat)
   case atStart=>exact ⟨0,qK _,rfl,rfl,by simp⟩
   case round =>
    obtain ⟨k,hk,rfl,rfl,rfl⟩:=hrel
    by_cases hkl:k<p.length
    ·have h3:(0:Int)<=(k:Int):=by omega
     have h4:(k:Int)<(p.length:Int):=by omega
     obtain ⟨b2,off2,rfl,_,q2⟩:=HP.out.at k hkl
     have hst2:=zqh (zo8 p (fun n=>ziw on n) k hkl)
     obtain ⟨va,hva⟩:∃va,(p.take k).all (fun n=>ziw on n)=va:=⟨_,rfl⟩
     rw[hva] at hst2 ⊢
     have HVa:=zqh hva
     clear hva
     rw[<-zay hkl] at hst2
     cases va
     ·go_wp2_with fail
      refine ⟨⟨k+1,by omega,by go_num,by first | rfl | trivial,by rw[hst2.out,yC]⟩,by simp[intOf];omega⟩
     ·go_wp2_with fail
      refine (zrB on (zbi p k) B m d _ HO.out).mono ?_
      rintro e w3 ⟨rfl,rfl⟩
      go_wp2_with fail
      refine ⟨⟨k+1,by omega,by go_num,by first | rfl | trivial,by rw[hst2.out,jS]⟩,by simp[intOf];omega⟩
    ·obtain rfl:k=p.length:=by omega
     rw[qQ]
     obtain ⟨va,hva⟩:∃va,p.all (fun n=>ziw on n)=va:=⟨_,rfl⟩
     rw[hva]
     have HVa:Hid (zc1 p on=va):=zqh hva
     clear hva
     rw[HVa.out] at hst
     have HS:=zqh hst
     clear hst
     cases va
     ·go_wp2_with fail
      refine ⟨⟨i+1,by omega,by go_num,by first | rfl | trivial,HS⟩,by simp[intOf];omega⟩
     ·go_wp2_with fail
      go_ret
      refine ⟨?_,rfl⟩
      rw[show zap f on=true from zmT hlt (by rw[<-zaz hlt,HPe.out];exact HVa.out)];rfl
  ·obtain rfl:i=f.length:=by omega
   go_wp2_with fail
   go_ret
   refine ⟨?_,rfl⟩
   have:=HN.out
   rw[qQ] at this
   rw[show zap f on=false from this];rfl
end

section
open Go.RowKit
def zhg:List Int->List Int->Bool
 | x::a,y::b=>if x=y then zhg a b else decide (x<y)
 | _,_=>false
def za7 (a b:List Int):Bool:=if a.length=b.length then zhg a b else decide (a.length<b.length)
theorem zdn (l:List Int) (i:Nat) (h:i<l.length):l.drop i=zbi l i::l.drop (i+1):=by rw[zay h];exact yU h
theorem zo9 {a b:List Int} {i:Nat} (ha:i<a.length) (hb:i<b.length):zhg (a.drop i) (b.drop i)=if zbi a i=zbi b i then zhg (a.drop (i+1)) (b.drop (i+1)) else decide (zbi a i<zbi b i):=by
 rw[zdn a i ha,zdn b i hb];rfl
theorem zpa (a b:List Int) (A B:Option Addr) (n c m d:Nat) (w:World) (h:zak w (.slice A n c) a) (h':zak w (.slice B m d) b) :
  Calls Tryz.prog 55 #[.slice A n c,.slice B m d] w fun e w'=>e=.returned (.bool (za7 a b))/\∃q,w'=w.drewN q:=by
 have HI:=zqh h
 have HJ:=zqh h'
 have hm:=h.max
 have hm':=h'.max
 obtain rfl:=h.len
 obtain rfl:=h'.len
 clear h h'
 by_cases hne:a.length=b.length
 ·have hne1:((a.length:Int) != (b.length:Int))=false:=by simp[hne]
  have hne2:(a.length != b.length)=false:=by simp[hne]
  have HNe:=zqh hne
  clear hne
  go_enter Tryz.func55,Tryz.ntmps55
  go_wp2_with fail
  go_loopw [18] (fun v wr=>∃i q:Nat,i<=a.length/\v=.int .i64 i/\wr=w.drewN q/\Hid (zhg a b=zhg (a.drop i) (b.drop i))) (fun v _=>a.length-(intOf v).toNat)
  case atStart=>exact ⟨0,0,qK _,rfl,rfl,zqh rfl⟩
  case round =>
   obtain ⟨i,q,hi,rfl,rfl,HE⟩:=hrel
   by_cases hlt:i<a.length
   ·have hlt':i<b.length:=by have:=HNe.out;omega
    have h1:(0:Int)<=(i:Int):=by omega
    have h2:(i:Int)<(a.length:Int):=by omega
    have h3:(i:Int)<(b.length:Int):=by omega
    obtain ⟨b1,o1,rfl,_,q1⟩:=HI.out.at i hlt
    obtain ⟨b2,o2,rfl,_,q2⟩:=HJ.out.at i hlt'
    have hst:=zo9 hlt hlt'
    obtain ⟨x,hx⟩:∃x,zbi a i=x:=⟨_,rfl⟩
    obtain ⟨y,hy⟩:∃y,zbi b i=y:=⟨_,rfl⟩
    rw[hx] at q1 hst
    rw[hy] at q2 hst
    clear hx hy
    by_cases he:x=y
    ·have hb:(x != y)=false:=by simp[he]
     rw[if_pos he] at hst
     have HS:=zqh hst
     clear hst he
     go_wp2_with fail
     go_quiet (fail)
     go_wp2_with fail
     go_roundw
     case rel=>exact ⟨i+1,q+nq,by omega,by go_num,rfl,zqh (HE.out.trans HS.out)⟩
     case measure=>simp[intOf];omega
    ·have hb:(x != y)=true:=by simp[he]
     rw[if_neg he] at hst
     have HS:=zqh hst
     clear hst he
     go_wp2_with fail
     go_quiet (fail)
     go_wp2_with fail
     go_quiet (fail)
     go_wp2_with fail
     go_ret
     refine ⟨?_,by (try simp only[xB]);exact ⟨_,rfl⟩⟩
     unfold za7
     rw[if_pos HNe.out,HE.out,HS.out]
     rfl
   ·obtain rfl:i=a.length:=by omega
    go_wp2_with fail
    go_ret
    refine ⟨?_,by (try simp only[xB]);exact ⟨_,rfl⟩⟩
    have hd:a.drop a.length=[]:=by simp
    unfold za7
    rw[if_pos HNe.out,HE.out,hd]
    rfl
 ·have hne1:((a.length:Int) != (b.length:Int))=true:=by simp;omega
  have hne2:(a.length != b.length)=true:=by simp[hne]
  have HNe:=zqh hne
  clear hne
  go_enter Tryz.func55,Tryz.ntmps55
  go_wp2_with fail
  go_ret
  refine ⟨?_,⟨0,rfl⟩⟩
  unfold za7
  rw[if_neg HNe.out]
  have e:decide ((a.length:Int)<(b.length:Int))=decide (a.length<b.length):=by
   by_cases h:a.length<b.length
   ·rw[qD h,qD (by omega)]
   ·rw[qE h,qE (by omega)]
  rw[<-e]
  rfl
theorem zct {α:Type} (l:List α) (i:Nat) (h:i<l.length):l.take (i+1)=l.take i++[l[i]]:=by
 rw[kE,qI h];rfl
end

section
open Go.RowKit
def zku (p:List Int) (k:Nat):Bool:=(List.range k).all (fun j=>decide (0<=zbi p j)&&(decide (j=0)||decide (zbi p (j-1)<zbi p j)))
def zlF (p:List Int):Bool:=zku p p.length
def zb9 (f:Fm) (i k:Nat):Bool:=(List.range k).all (fun j=>!zc1 (za5 f j) (za5 f i))
def zoz (f:Fm) (i:Nat):Bool:=zlF (za5 f i)&&((decide (i=0)||za7 (za5 f (i-1)) (za5 f i))&&zb9 f i i)
def zpb (f:Fm) (i:Nat):Bool:=(List.range i).all (zoz f)
def fmS (f:Fm):Bool:=zpb f f.length
theorem ze1 (g:Nat->Bool) (k:Nat):(List.range (k+1)).all g=((List.range k).all g&&g k):=by
 rw[kF,xT];simp
theorem zgh {g:Nat->Bool} {k n:Nat} (h:g k=false) (hk:k<n):(List.range n).all g=false:=by
 cases hb:(List.range n).all g with
 | false=>rfl
 | true =>
  have:=List.all_eq_true.1 hb k (List.mem_range.2 hk)
  rw[h] at this;cases this
theorem ze2 (p on:List Int):zap [p] on=zc1 p on:=by unfold zap;simp
theorem zqJ {w:World} {u:Value} {p:List Int} {T:TypeId} (h:zak w u p):zcF (w.alloc (.cells #[u] T)) (.slice (some ⟨w.heap.size,0,none⟩) 1 1) [p]:=by
 refine ⟨_,_,rfl,qL _,by omega,fun _=>⟨w.heap.size,0,rfl,by simp,fun j hj=>?_⟩⟩
 obtain rfl:j=0:=by simpa using hj
 refine ⟨u,?_,h.next (zqb)⟩
 have:=(At.new w T #[u]).cell 0
 simp
theorem zlG (f:Fm) (A:Option Addr) (n c:Nat) (w:World) (h:zcF w (.slice A n c) f) :
  Calls Tryz.prog 21 #[.slice A n c] w fun e w'=>e=.returned (.bool (fmS f))/\Below w.heap.size w w':=by
 have HI:=zqh h
 have hm:=h.max
 obtain rfl:=h.len
 clear h
 go_enter Tryz.func21,Tryz.ntmps21
 go_wp2_with fail
 go_loopw [8] (fun v wr=>∃i:Nat,i<=f.length/\v=.int .i64 i/\Hid (Below w.heap.size w wr)/\Hid (zpb f i=true)) (fun v _=>f.length-(intOf v).toNat)
 case atStart=>exact ⟨0,qK _,rfl,zqh (qT _ _),zqh rfl⟩
 case round =>
  obtain ⟨i,hi,rfl,HB,HE⟩:=hrel
  by_cases hlt:i<f.length
  ·have h1:(0:Int)<=(i:Int):=by omega
   have h2:(i:Int)<(f.length:Int):=by omega
   have HIr:=zqh (HI.out.next HB.out)
   obtain ⟨b1,o1,A1,c1,rfl,hb1,q1,hp1⟩:=HIr.out.at i hlt
   have HBl:=zqh hb1
   have hstep:=ze1 (zoz f) i
   have hnot:zoz f i=false->fmS f=false:=fun e=>zgh e hlt
   have hoki:zoz f i=(zlF (za5 f i)&&((decide (i=0)||za7 (za5 f (i-1)) (za5 f i))&&zb9 f i i)):=rfl
   have hap:∀k,zb9 f i k=(List.range k).all (fun j=>!zc1 (za5 f j) (za5 f i)):=fun _=>rfl
   obtain ⟨p,hpe⟩:∃p,za5 f i=p:=⟨_,rfl⟩
   rw[hpe] at q1 hp1 hoki
   simp only[hpe] at hap
   have HP:=zqh hp1
   have hpm:=hp1.max
   have HOk:=zqh hoki
   have HNot:=zqh hnot
   have HAp:=zqh hap
   have HSt:Hid (zpb f (i+1)=zoz f i):=zqh (by have:=HE.out;unfold zpb at this ⊢;rw[hstep,this,jS])
   clear hp1 hpe hoki hnot hstep hap hb1
   go_wp2_with fail
   obtain ⟨wo,hwo⟩:∃wo:World,wo=wr:=⟨_,rfl⟩
   rw[<-hwo] at HB HIr HBl q1 HP ⊢
   clear hwo
   go_loopw [16] (fun v wr=>∃k q:Nat,k<=p.length/\v=.int .i64 k/\wr=wo.drewN q/\Hid (zku p k=true)) (fun v _=>p.length-(intOf v).toNat)
   case atStart=>exact ⟨0,0,qK _,rfl,rfl,zqh rfl⟩
   case round =>
    obtain ⟨k,q,hk,rfl,rfl,HR⟩:=hrel
    by_cases hkl:k<p.length
    ·have h3:(0:Int)<=(k:Int):=by omega
     have h4:(k:Int)<(p.length:Int):=by omega
     obtain ⟨b2,o2,rfl,_,q2⟩:=HP.out.at k hkl
     have hrs:zku p (k+1)=(decide (0<=zbi p k)&&(decide (k=0)||decide (zbi p (k-1)<zbi p k))):=by have:=HR.out;unfold zku at this ⊢;rw[ze1,this,jS]
     have hrn:(decide (0<=zbi p k)&&(decide (k=0)||decide (zbi p (k-1)<zbi p k)))=false->zlF p=false:=fun e=>zgh (g:=fun j=>decide (0<=zbi p j)&&(decide (j=0)||decide (zbi p (j-1)<zbi p j))) e hkl
     have hprev:0<k->wo.cell? ⟨b2,o2+(k-1),none⟩=some (.int .i64 (zbi p (k-1))):=fun h0=>by
      obtain ⟨b3,o3,e3,_,q3⟩:=HP.out.at (k-1) (by omega)
      injection e3 with e3
      injection e3 with e3 e4 _
      subst e3 e4
      exact q3
     obtain ⟨x,hx⟩:∃x,zbi p k=x:=⟨_,rfl⟩
     rw[hx] at q2 hrs hrn
     have HRs:=zqh hrs
     have HRn:=zqh hrn
     have HPr:=zqh hprev
     clear hx hrs hrn hprev
     by_cases hneg:x<0
     ·have hneg1:decide (x<0)=true:=qD hneg
      have HF:Hid (fmS f=false):=zqh (HNot.out (by rw[HOk.out,HRn.out (by rw[qE (by omega)];rfl)];rfl))
      go_wp2_with fail
      go_quiet (fail)
      go_wp2_with fail
      go_ret
      refine ⟨?_,?_⟩
      ·rw[HF.out];rfl
      ·simp only[xB];exact zcB HB.out _
     ·have hneg1:decide (x<0)=false:=qE hneg
      by_cases hk0:k=0
      ·have hk01:¬(0:Int)<(k:Int):=by omega
       have hk02:decide ((0:Int)<(k:Int))=false:=qE hk01
       have hk03:decide (0<k)=false:=qE (by omega)
       have HK0:=zqh hk0
       have HN0:=zqh hneg
       clear hk0
       go_wp2_with fail
       go_quiet (fail)
       go_wp2_with fail
       go_roundw
       case rel=>exact ⟨k+1,q+nq,by omega,by go_num,rfl,zqh (by rw[HRs.out,qD (show (0:Int)<=x by have:=HN0.out;omega),qD HK0.out];rfl)⟩
       case measure=>simp[intOf];omega
      ·have hk01:(0:Int)<(k:Int):=by omega
       have hk02:decide ((0:Int)<(k:Int))=true:=qD hk01
       have hk03:decide (0<k)=true:=qD (by omega)
       obtain ⟨k1,hk1⟩:∃k1,k1=k-1:=⟨_,rfl⟩
       have q3:=HPr.out (by omega)
       rw[<-hk1] at q3
       obtain ⟨y,hy⟩:∃y,zbi p k1=y:=⟨_,rfl⟩
       rw[hy] at q3
       have e1:IntKind.i64.wrap ((k:Int)-1)=(k1:Int):=by rw[yY];omega
       have e2:(k:Int)-1=(k1:Int):=by omega
       have h5:(0:Int)<=(k1:Int):=by omega
       have h6:(k1:Int)<(p.length:Int):=by omega
       have HY:Hid (zbi p (k-1)=y):=zqh (by rw[<-hk1];exact hy)
       have HK0:=zqh hk0
       have HN0:=zqh hneg
       clear hk0 hy hk1
       by_cases hle:x<=y
       ·have hle1:decide (x<=y)=true:=qD hle
        have HF:Hid (fmS f=false):=zqh (HNot.out (by rw[HOk.out,HRn.out (by rw[HY.out,qE HK0.out,qE (show ¬y<x by omega)];simp)];rfl))
        go_wp2_with fail
        go_quiet (fail)
        go_wp2_with fail
        go_ret
        refine ⟨?_,?_⟩
        ·rw[HF.out];rfl
        ·simp only[xB];exact zcB HB.out _
       ·have hle1:decide (x<=y)=false:=qE hle
        have HLe:=zqh hle
        go_wp2_with fail
        go_quiet (fail)
        clear e1 e2
        go_wp2_with fail
        go_roundw
        case rel=>exact ⟨k+1,q+nq,by omega,by go_num,rfl,zqh (by rw[HRs.out,HY.out,qD (show (0:Int)<=x by have:=HN0.out;omega),qD (show y<x by have:=HLe.out;omega)];simp)⟩
        case measure=>simp[intOf];omega
    ·obtain rfl:k=p.length:=by omega
     have HOk2:Hid (zoz f i=((decide (i=0)||za7 (za5 f (i-1)) p)&&zb9 f i i)):=zqh (by rw[HOk.out,show zlF p=true from HR.out,jS])
     have hcase:(i=0/\decide (0<i)=false/\decide ((0:Int)<(i:Int))=false)\/(0<i/\decide (0<i)=true/\decide ((0:Int)<(i:Int))=true):=by
      by_cases h0:0<i
      ·exact Or.inr ⟨h0,qD h0,qD (by omega)⟩
      ·exact Or.inl ⟨by omega,qE h0,qE (by omega)⟩
     rcases hcase with ⟨h0,h01,h02⟩ | ⟨h0,h01,h02⟩
     ·have HOk3:Hid (zoz f i=zb9 f i i):=zqh (by rw[HOk2.out,qD h0];rfl)
      have h03:¬(0:Int)<(i:Int):=by omega
      clear h0
      go_wp2_with fail
      go_quiet (fail)
      go_wp2_with fail
      have HBs:Hid (Below w.heap.size w (wo.drewN (q+nq))):=zqh (zcB HB.out _)
      obtain ⟨ws,hws⟩:∃ws,ws=wo.drewN (q+nq):=⟨_,rfl⟩
      have HIs:Hid (zcF ws (.slice (some ⟨b1,o1,none⟩) f.length c) f):=zqh (by rw[hws];exact HIr.out.drewN _)
      have HPs:Hid (zak ws (.slice A1 p.length c1) p):=zqh (by rw[hws];exact HP.out.drewN _)
      have q1s:ws.cell? ⟨b1,o1+i,none⟩=some (.slice A1 p.length c1):=by rw[hws];exact q1
      have hb1s:b1<ws.heap.size:=by rw[hws];exact HBl.out
      rw[<-hws] at HBs
      first | rw[<-hws] | rw[xB,<-hws]
      have HBl2:=zqh hb1s
      clear hws q1 hb1s HIr HP
      go_loopw [66] (fun v wr=>∃k:Nat,k<=i/\v=.int .i64 k/\Hid (Below ws.heap.size ws wr)/\Hid (zb9 f i k=true)) (fun v _=>i-(intOf v).toNat)
      case atStart=>exact ⟨0,qK _,rfl,zqh (qT _ _),zqh rfl⟩
      case round =>
       obtain ⟨k,hk,rfl,HBk,HAk⟩:=hrel
       by_cases hki:k<i
       ·have h7:(0:Int)<=(k:Int):=by omega
        have h8:(k:Int)<(i:Int):=by omega
        have h9:(k:Int)<(f.length:Int):=by omega
        have HIk:=zqh (HIs.out.next HBk.out)
        have HPk:=zqh (HPs.out.next HBk.out)
        have q1k:wr.cell? ⟨b1,o1+i,none⟩=some (.slice A1 p.length c1):=((zbW HBk.out).1 b1 _ HBl2.out).trans q1s
        obtain ⟨b6,o6,A6,c6,e6,_,q6,hp6⟩:=HIk.out.at k (by omega)
        injection e6 with e6
        injection e6 with e6 e7 _
        subst e6 e7
        have hak:zb9 f i (k+1)=!zc1 (za5 f k) p:=by have:=HAk.out;rw[HAp.out] at this ⊢;rw[ze1,this,jS]
        have hno:(!zc1 (za5 f k) p)=false->zb9 f i i=false:=fun e=>by rw[HAp.out];exact zgh (g:=fun j=>!zc1 (za5 f j) p) e hki
        obtain ⟨p6,hp6e⟩:∃p6,za5 f k=p6:=⟨_,rfl⟩
        rw[hp6e] at q6 hp6 hak hno
        have HP6:=zqh hp6
        have HAk1:=zqh hak
        have HNo:=zqh hno
        have HBl3:Hid (b1<wr.heap.size):=zqh (qM HBl2.out HBk.out.size)
        obtain ⟨vb,hvb⟩:∃vb,zc1 p6 p=vb:=⟨_,rfl⟩
        have HVb:=zqh hvb
        clear hp6 hp6e hak hno hvb q1s
        have hal:Below wr.heap.size wr (wr.alloc (Obj.cells #[.slice A6 p6.length c6] 80)):=zqb
        have s1:(wr.alloc (Obj.cells #[.slice A6 p6.length c6] 80)).cell? ⟨b1,o1+k,none⟩=some (.slice A6 p6.length c6):=((zbW hal).1 b1 _ HBl3.out).trans q6
        have s2:(wr.alloc (Obj.cells #[.slice A6 p6.length c6] 80)).cell? ⟨b1,o1+i,none⟩=some (.slice A1 p.length c1):=((zbW hal).1 b1 _ HBl3.out).trans q1k
        have HHo:Hid (Calls Tryz.prog 56 #[.slice (some ⟨wr.heap.size,0,none⟩) 1 1,.slice A1 p.length c1] (wr.alloc (Obj.cells #[.slice A6 p6.length c6] 80)).drew fun e w'=>e=.returned (.bool vb)/\w'=(wr.alloc (Obj.cells #[.slice A6 p6.length c6] 80)).drew):=zqh (by
         have h:=ziL [p6] p (some ⟨wr.heap.size,0,none⟩) A1 1 1 p.length c1 (wr.alloc (Obj.cells #[.slice A6 p6.length c6] 80)).drew ((zqJ (T:=80) HP6.out).drewN 1) ((HPk.out.next hal).drewN 1)
         rw[ze2,HVb.out] at h
         exact h)
        have HBa:Hid (Below ws.heap.size ws (wr.alloc (Obj.cells #[.slice A6 p6.length c6] 80)).drew):=zqh (zcB (HBk.out.trans (hal.mono HBk.out.size)) 1)
        clear hal
        go_wp2_with fail
        go_region_held3 (fun w'=>w'.cell? ⟨b1,o1+k,none⟩=some (.slice A6 p6.length c6)/\w'.cell? ⟨b1,o1+i,none⟩=some (.slice A1 p.length c1))
         (first | go_keep | exact ⟨s1,s2⟩ | fail)
         ((go_at_call 56
           (with_reducible refine HHo.out.mono ?_)
           rintro e w3 ⟨rfl,rfl⟩))
        cases vb
        ·clear s1 s2 q1k q6
         go_wp2_with fail
         go_roundw
         case rel=>exact ⟨k+1,by omega,by go_num,HBa,zqh (by rw[HAk1.out,HVb.out];rfl)⟩
         case measure=>simp[intOf];omega
        ·have HF:Hid (fmS f=false):=zqh (HNot.out (by rw[HOk3.out];exact HNo.out (by rw[HVb.out];rfl)))
         go_wp2_with fail
         go_ret
         refine ⟨?_,HBs.out.trans (HBa.out.mono HBs.out.size)⟩
         rw[HF.out];rfl
       ·obtain rfl:k=i:=by omega
        go_wp2_with fail
        refine ⟨⟨k+1,by omega,by go_num,zqh (HBs.out.trans (HBk.out.mono HBs.out.size)),zqh (by rw[HSt.out,HOk3.out];exact HAk.out)⟩,by simp[intOf];omega⟩
     ·obtain ⟨i1,hi1⟩:∃i1,i1=i-1:=⟨_,rfl⟩
      obtain ⟨b5,o5,A5,c5,e5,_,q5,hp5⟩:=HIr.out.at i1 (by omega)
      injection e5 with e5
      injection e5 with e5 e6 _
      subst e5 e6
      have e1:IntKind.i64.wrap ((i:Int)-1)=(i1:Int):=by rw[yY];omega
      have h5:(0:Int)<=(i1:Int):=by omega
      have h6:(i1:Int)<(f.length:Int):=by omega
      have h03:(0:Int)<(i:Int):=by omega
      rw[<-hi1] at HOk2
      obtain ⟨p5,hp5e⟩:∃p5,za5 f i1=p5:=⟨_,rfl⟩
      rw[hp5e] at HOk2 q5 hp5
      obtain ⟨lv,hlv⟩:∃lv,za7 p5 p=lv:=⟨_,rfl⟩
      have HLs:Hid (∀a:Nat,Calls Tryz.prog 55 #[.slice A5 p5.length c5,.slice A1 p.length c1] (wo.drewN a) fun e w'=>e=.returned (.bool lv)/\∃q',w'=(wo.drewN a).drewN q'):=zqh (fun a=>by rw[<-hlv];exact zpa p5 p A5 A1 _ c5 _ c1 _ (hp5.drewN a) (HP.out.drewN a))
      rw[hlv,qE (show ¬i=0 by omega)] at HOk2
      clear hp5 hp5e hlv hi1 h0
      cases lv
      ·have HF:Hid (fmS f=false):=zqh (HNot.out (by rw[HOk2.out];rfl))
       go_wp2_with fail
       go_quiet (exact (HLs.out _).mono (fun _ _ h=>⟨h.1,ziK h.2⟩))
       go_wp2_with fail
       go_ret
       refine ⟨?_,?_⟩
       ·rw[HF.out];rfl
       ·simp only[xB];exact zcB HB.out _
      ·have HOk3:Hid (zoz f i=zb9 f i i):=zqh (by rw[HOk2.out];rfl)
       go_wp2_with fail
       go_quiet (exact (HLs.out _).mono (fun _ _ h=>⟨h.1,ziK h.2⟩))
       clear e1
       go_wp2_with fail
       have HBs:Hid (Below w.heap.size w (wo.drewN (q+nq))):=zqh (zcB HB.out _)
       obtain ⟨ws,hws⟩:∃ws,ws=wo.drewN (q+nq):=⟨_,rfl⟩
       have HIs:Hid (zcF ws (.slice (some ⟨b1,o1,none⟩) f.length c) f):=zqh (by rw[hws];exact HIr.out.drewN _)
       have HPs:Hid (zak ws (.slice A1 p.length c1) p):=zqh (by rw[hws];exact HP.out.drewN _)
       have q1s:ws.cell? ⟨b1,o1+i,none⟩=some (.slice A1 p.length c1):=by rw[hws];exact q1
       have hb1s:b1<ws.heap.size:=by rw[hws];exact HBl.out
       rw[<-hws] at HBs
       first | rw[<-hws] | rw[xB,<-hws]
       have HBl2:=zqh hb1s
       clear hws q1 hb1s HIr HP
       go_loopw [66] (fun v wr=>∃k:Nat,k<=i/\v=.int .i64 k/\Hid (Below ws.heap.size ws wr)/\Hid (zb9 f i k=true)) (fun v _=>i-(intOf v).toNat)
       case atStart=>exact ⟨0,qK _,rfl,zqh (qT _ _),zqh rfl⟩
       case round =>
        obtain ⟨k,hk,rfl,HBk,HAk⟩:=hrel
        by_cases hki:k<i
        ·have h7:(0:Int)<=(k:Int):=by omega
         have h8:(k:Int)<(i:Int):=by omega
         have h9:(k:Int)<(f.length:Int):=by omega
         have HIk:=zqh (HIs.out.next HBk.out)
         have HPk:=zqh (HPs.out.next HBk.out)
         have q1k:wr.cell? ⟨b1,o1+i,none⟩=some (.slice A1 p.length c1):=((zbW HBk.out).1 b1 _ HBl2.out).trans q1s
         obtain ⟨b6,o6,A6,c6,e6,_,q6,hp6⟩:=HIk.out.at k (by omega)
         injection e6 with e6
         injection e6 with e6 e7 _
         subst e6 e7
         have hak:zb9 f i (k+1)=!zc1 (za5 f k) p:=by have:=HAk.out;rw[HAp.out] at this ⊢;rw[ze1,this,jS]
         have hno:(!zc1 (za5 f k) p)=false->zb9 f i i=false:=fun e=>by rw[HAp.out];exact zgh (g:=fun j=>!zc1 (za5 f j) p) e hki
         obtain ⟨p6,hp6e⟩:∃p6,za5 f k=p6:=⟨_,rfl⟩
         rw[hp6e] at q6 hp6 hak hno
         have HP6:=zqh hp6
         have HAk1:=zqh hak
         have HNo:=zqh hno
         have HBl3:Hid (b1<wr.heap.size):=zqh (qM HBl2.out HBk.out.size)
         obtain ⟨vb,hvb⟩:∃vb,zc1 p6 p=vb:=⟨_,rfl⟩
         have HVb:=zqh hvb
         clear hp6 hp6e hak hno hvb q1s
         have hal:Below wr.heap.size wr (wr.alloc (Obj.cells #[.slice A6 p6.length c6] 80)):=zqb
         have s1:(wr.alloc (Obj.cells #[.slice A6 p6.length c6] 80)).cell? ⟨b1,o1+k,none⟩=some (.slice A6 p6.length c6):=((zbW hal).1 b1 _ HBl3.out).trans q6
         have s2:(wr.alloc (Obj.cells #[.slice A6 p6.length c6] 80)).cell? ⟨b1,o1+i,none⟩=some (.slice A1 p.length c1):=((zbW hal).1 b1 _ HBl3.out).trans q1k
         have HHo:Hid (Calls Tryz.prog 56 #[.slice (some ⟨wr.heap.size,0,none⟩) 1 1,.slice A1 p.length c1] (wr.alloc (Obj.cells #[.slice A6 p6.length c6] 80)).drew fun e w'=>e=.returned (.bool vb)/\w'=(wr.alloc (Obj.cells #[.slice A6 p6.length c6] 80)).drew):=zqh (by
          have h:=ziL [p6] p (some ⟨wr.heap.size,0,none⟩) A1 1 1 p.length c1 (wr.alloc (Obj.cells #[.slice A6 p6.length c6] 80)).drew ((zqJ (T:=80) HP6.out).drewN 1) ((HPk.out.next hal).drewN 1)
          rw[ze2,HVb.out] at h
          exact h)
         have HBa:Hid (Below ws.heap.size ws (wr.alloc (Obj.cells #[.slice A6 p6.length c6] 80)).drew):=zqh (zcB (HBk.out.trans (hal.mono HBk.out.size)) 1)
         clear hal
         go_wp2_with fail
         go_region_held3 (fun w'=>w'.cell? ⟨b1,o1+k,none⟩=some (.slice A6 p6.length c6)/\w'.cell? ⟨b1,o1+i,none⟩=some (.slice A1 p.length c1))
          (first | go_keep | exact ⟨s1,s2⟩ | fail)
          ((go_at_call 56
            (with_reducible refine HHo.out.mono ?_)
            rintro e w3 ⟨rfl,rfl⟩))
         cases vb
         ·clear s1 s2 q1k q6
          go_wp2_with fail
          go_roundw
          case rel=>exact ⟨k+1,by omega,by go_num,HBa,zqh (by rw[HAk1.out,HVb.out];rfl)⟩
          case measure=>simp[intOf];omega
         ·have HF:Hid (fmS f=false):=zqh (HNot.out (by rw[HOk3.out];exact HNo.out (by rw[HVb.out];rfl)))
          go_wp2_with fail
          go_ret
          refine ⟨?_,HBs.out.trans (HBa.out.mono HBs.out.size)⟩
          rw[HF.out];rfl
        ·obtain rfl:k=i:=by omega
         go_wp2_with fail
         refine ⟨⟨k+1,by omega,by go_num,zqh (HBs.out.trans (HBk.out.mono HBs.out.size)),zqh (by rw[HSt.out,HOk3.out];exact HAk.out)⟩,by simp[intOf];omega⟩
  ·obtain rfl:i=f.length:=by omega
   go_wp2_with fail
   go_ret
   refine ⟨?_,HB.out⟩
   rw[show fmS f=true from HE.out];rfl
end
end Go.Proofs.YtdmodhnhldbpnaaGreat
