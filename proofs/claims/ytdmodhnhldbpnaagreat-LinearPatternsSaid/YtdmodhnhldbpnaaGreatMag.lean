/- Joined: LinMath, OffF, LinSpec, RunKit, LpAt. -/
import Derived.Test.YtdmodhnhldbpnaaGreatMad
import Derived.Test.YtdmodhnhldbpnaaGreatMaf
import Derived.Test.YtdmodhnhldbpnaaGreatMaa
import Derived.Test.YtdmodhnhldbpnaaGreatAid
/- What is left of a node behind a byte: mathematics; no program is named. -/
set_option linter.unusedSectionVars false
set_option linter.unusedSimpArgs false
set_option linter.unusedVariables false
namespace Go.Proofs.YtdmodhnhldbpnaaGreat
section
open Go.RowKit
def fP (P:Int->Bool) (f:Fm):Bool:=f.any (fun p=>p.all P)
theorem zgD {p:List Int} {P Q:Int->Bool} (h:∀n∈p,P n=Q n):p.all P=p.all Q:=by
 induction p with
 | nil=>rfl
 | cons x p ih=>rw[yR,yR,h x (by simp),ih (fun n hn=>h n (by simp[hn]))]
theorem zd6 {f:Fm} {P Q:Int->Bool} (h:∀p∈f,∀n∈p,P n=Q n):fP P f=fP Q f:=by
 unfold fP
 induction f with
 | nil=>rfl
 | cons p f ih=>rw[xQ,xQ,zgD (h p (by simp)),ih (fun q hq=>h q (by simp[hq]))]
theorem zlH {P:Int->Bool} {L:List Int} {n:Int} (h:n∈L):ziw (L.filter P) n=P n:=by
 unfold ziw
 rw[qZ,jI]
 constructor
 ·rintro ⟨x,hx,e⟩
  rw[beq_iff_eq] at e
  subst e
  exact (List.mem_filter.1 hx).2
 ·intro hp
  exact ⟨n,List.mem_filter.2 ⟨h,hp⟩,by simp⟩
theorem zcT {P:Int->Bool} {L:List Int} {f:Fm} (h:∀p∈f,∀n∈p,n∈L):zap f (L.filter P)=fP P f:=by
 show fP (ziw (L.filter P)) f=fP P f
 exact zd6 (fun p hp n hn=>zlH (h p hp n hn))
theorem zuI {f g h:Fm} (hh:∀on,zap h on=(zap f on||zap g on)) (P:Int->Bool):fP P h=(fP P f||fP P g):=by
 have e:=hh ((f++g++h).flatten.filter P)
 have m:∀k:Fm,(∀p∈k,p∈f++g++h)->∀p∈k,∀n∈p,n∈(f++g++h).flatten:=fun k hk p hp n hn=>List.mem_flatten.2 ⟨p,hk p hp,hn⟩
 rw[zcT (m h (fun p hp=>by simp[hp])),zcT (m f (fun p hp=>by simp[hp])),zcT (m g (fun p hp=>by simp[hp]))] at e
 exact e
theorem ztn {f g h:Fm} (hh:∀on,zap h on=(zap f on&&zap g on)) (P:Int->Bool):fP P h=(fP P f&&fP P g):=by
 have e:=hh ((f++g++h).flatten.filter P)
 have m:∀k:Fm,(∀p∈k,p∈f++g++h)->∀p∈k,∀n∈p,n∈(f++g++h).flatten:=fun k hk p hp n hn=>List.mem_flatten.2 ⟨p,hk p hp,hn⟩
 rw[zcT (m h (fun p hp=>by simp[hp])),zcT (m f (fun p hp=>by simp[hp])),zcT (m g (fun p hp=>by simp[hp]))] at e
 exact e
theorem zrD {f h:Fm} (hh:∀on on',(∀p∈f,∀x∈p,(x∈on'↔¬x∈on))->zap h on=!zap f on') (P:Int->Bool):fP P h=!fP (fun n=>!P n) f:=by
 have m:∀k:Fm,(∀p∈k,p∈f++h)->∀p∈k,∀n∈p,n∈(f++h).flatten:=fun k hk p hp n hn=>List.mem_flatten.2 ⟨p,hk p hp,hn⟩
 have e:=hh ((f++h).flatten.filter P) ((f++h).flatten.filter (fun n=>!P n)) (fun p hp x hx=>by
  have hm:=m f (fun p hp=>by simp[hp]) p hp x hx
  rw[List.mem_filter,List.mem_filter]
  constructor
  ·rintro ⟨_,a⟩ ⟨_,b⟩
   rw[b] at a;cases a
  ·intro a
   refine ⟨hm,?_⟩
   cases e:P x
   ·rfl
   ·exact absurd ⟨hm,e⟩ a)
 rw[zcT (m h (fun p hp=>by simp[hp])),zcT (m f (fun p hp=>by simp[hp]))] at e
 exact e
theorem zrE (P:Int->Bool) (n:Int):fP P [[n]]=P n:=by simp[fP]
theorem zgi (P:Int->Bool):fP P []=false:=rfl
theorem zgE (P:Int->Bool):fP P [[]]=true:=rfl
section
variable {l bits:List Nat} {ns:List Nd}
theorem zdL (hf:zaA ns) {bt:Nat}:∀(m:Nat) (x:Int),x.toNat<=m->zac ns x->∀j,j<=l.length->(bits[j]?).getD 0=bt->zai l bits ns x j j=zai [] [bt] ns x 0 0
 | m,x,hm,hx,j,hj,hb=>by
  have hx':=hx
  unfold zac at hx'
  rcases zh3 hf hx with k | k | k | k | k | k | k | k | k
  ·rw[zlC hf hx k,zlC hf hx k];rfl
  ·rw[zkt hf hx k,zkt hf hx k];simp[eqF]
  ·rw[zb8 hf hx k,zb8 hf hx k];simp[zbL]
  ·obtain ⟨⟨a0,a1⟩,b0,b1⟩:=zaK hf hx (by omega)
   have h0:=a0
   have h1:=b0
   unfold zac at h0 h1
   cases m with
   | zero=>omega
   | succ m =>
    have ea:=zdL hf m (ka ns x) (by omega) a0 j hj hb
    have eb:=zdL hf m (kb ns x) (by omega) b0 j hj hb
    rw[zh4 hf hx k,zh4 hf hx k]
    rw[qZ,zao,zao]
    constructor
    ·rintro ⟨q,q0,q1,q2,q3,q4⟩
     obtain rfl:q=j:=by omega
     exact ⟨0,by simp,qL _,qL _,by rw[<-ea];exact q3,by rw[<-eb];exact q4⟩
    ·rintro ⟨q,q0,q1,q2,q3,q4⟩
     obtain rfl:q=0:=by omega
     exact ⟨j,by omega,qL _,qL _,by rw[ea];exact q3,by rw[eb];exact q4⟩
  ·obtain ⟨⟨a0,a1⟩,b0,b1⟩:=zaK hf hx (by omega)
   have h0:=a0
   have h1:=b0
   unfold zac at h0 h1
   cases m with
   | zero=>omega
   | succ m =>
    rw[ztd hf hx k,ztd hf hx k]
    show (_||_)=(_||_)
    rw[zdL hf m (ka ns x) (by omega) a0 j hj hb,zdL hf m (kb ns x) (by omega) b0 j hj hb]
  ·obtain ⟨⟨a0,a1⟩,b0,b1⟩:=zaK hf hx (by omega)
   have h0:=a0
   have h1:=b0
   unfold zac at h0 h1
   cases m with
   | zero=>omega
   | succ m =>
    rw[zlD hf hx k,zlD hf hx k]
    show (_&&_)=(_&&_)
    rw[zdL hf m (ka ns x) (by omega) a0 j hj hb,zdL hf m (kb ns x) (by omega) b0 j hj hb]
  ·obtain ⟨a0,a1⟩:=zbT hf hx (by omega)
   have h0:=a0
   unfold zac at h0
   cases m with
   | zero=>omega
   | succ m =>
    rw[ziI hf hx k,ziI hf hx k,zeR zqn,zeR zqn,zdL hf m (ka ns x) (by omega) a0 j hj hb]
  ·rw[zgC hf hx k,zgC hf hx k,ze0,ze0]
  ·rw[zhw hf hx k,zhw hf hx k]
   unfold zoT
   rw[hb]
   simp
theorem ziP (hf:zaA ns) {x:Int} (hx:zac ns x) {bt j:Nat} (hj:j<=l.length) (hb:(bits[j]?).getD 0=bt):zai l bits ns x j j=zan ns bt x:=by
 unfold zan
 unfold zac at hx
 rw[zdL hf x.toNat x zqn hx j hj hb,qD hx,jS]
end
theorem zlI {f:Tbl} {n i j:Nat} (h:zhf f n i j):i<j->j<n->∃k,i<k/\k<=j/\f i k=true/\zhf f n k j:=by
 induction h with
 | here=>intro h;omega
 | @step m j h1 h2 h3 h4 h5 ih =>
  intro hij hjn
  by_cases e:i=m
  ·subst e
   exact ⟨j,hij,qL _,h5,.here⟩
  ·obtain ⟨k,k1,k2,k3,k4⟩:=ih (by omega) h2
   exact ⟨k,k1,by omega,k3,.step k4 h2 k2 h4 h5⟩
theorem zmZ {f:Tbl} {n i k j:Nat} (hf:f i k=true) (hik:i<=k) (hi:i<n) (h:zhf f n k j):zhf f n i j:=by
 induction h with
 | here=>exact .step .here hi zqn hik hf
 | @step m j h1 h2 h3 h4 h5 ih=>exact .step ih h2 (by omega) h4 h5
def Byt (l:List Nat):Prop:=∀x∈l,x<256
def Den (V:List Nat->List Nat->Nat->Nat->Prop) (s:Nat) (val:List Nat->List Nat->Nat->Nat->Bool) (ms:List Nd) (f:Fm):Prop:=∀(l bits:List Nat) (i j:Nat),V l bits i j->fP (fun n=>zai l bits ms n (i+s) j) f=val l bits i j
def V0 (l bits:List Nat) (i j:Nat):Prop:=Byt l/\i<=j/\j<=l.length
def V1 (b bt:Nat) (l bits:List Nat) (i j:Nat):Prop:=Byt l/\i<j/\j<=l.length/\(l[i]?).getD 0=b/\(bits[i]?).getD 0=bt
def InF (ns:List Nd) (f:Fm):Prop:=∀p∈f,∀n∈p,zac ns n
theorem zlJ {l bits:List Nat} {ns:List Nd} {f:Fm} (h:InF ns f) (more:List Nd) (i j:Nat):fP (fun n=>zai l bits (ns++more) n i j) f=fP (fun n=>zai l bits ns n i j) f:=zd6 (fun p hp n hn=>by rw[zav l bits more (h p hp n hn)])
theorem Den.up {V:List Nat->List Nat->Nat->Nat->Prop} {s:Nat} {val:List Nat->List Nat->Nat->Nat->Bool} {ms:List Nd} {f:Fm} (h:Den V s val ms f) (hi:InF ms f) (more:List Nd):Den V s val (ms++more) f:=fun l bits i j hv=>by rw[zlJ hi more];exact h l bits i j hv
theorem Den.val {V:List Nat->List Nat->Nat->Nat->Prop} {s:Nat} {val val':List Nat->List Nat->Nat->Nat->Bool} {ms:List Nd} {f:Fm} (h:Den V s val ms f) (he:∀l bits i j,V l bits i j->val l bits i j=val' l bits i j):Den V s val' ms f:=fun l bits i j hv=>by rw[h l bits i j hv,he l bits i j hv]
def zeK (ns:List Nd) (x:Int) (l bits:List Nat) (i j:Nat):Bool:=zai l bits ns x i j
def OfR (ns:List Nd) (x:Int) (ms:List Nd) (f:Fm):Prop:=Den V0 0 (zeK ns x) ms f
def zbF (ns:List Nd) (x:Int) (b bt:Nat) (ms:List Nd) (f:Fm):Prop:=Den (V1 b bt) 1 (zeK ns x) ms f
theorem zez {ns:List Nd} {x:Int} (hx:zac ns x) (more:List Nd):zeK (ns++more) x=zeK ns x:=by
 funext l bits i j
 unfold zeK
 rw[zav l bits more hx]
theorem OfR.from {ns:List Nd} {x:Int} {ms:List Nd} {f:Fm} {more:List Nd} (h:OfR (ns++more) x ms f) (hx:zac ns x):OfR ns x ms f:=by unfold OfR at h;rw[zez hx] at h;exact h
theorem zbF.from {ns:List Nd} {x:Int} {b bt:Nat} {ms:List Nd} {f:Fm} {more:List Nd} (h:zbF (ns++more) x b bt ms f) (hx:zac ns x):zbF ns x b bt ms f:=by unfold zbF at h;rw[zez hx] at h;exact h
def zhh (ns:List Nd) (x:Int) (l bits:List Nat) (i j:Nat):Bool:=!zai l bits ns x i j
theorem zjQ {ns:List Nd} {x:Int} (hx:zac ns x) (more:List Nd):zhh (ns++more) x=zhh ns x:=by
 funext l bits i j
 unfold zhh
 rw[zav l bits more hx]
def zmq (ns:List Nd) (y x:Int) (l bits:List Nat) (i j:Nat):Bool:=zaF (zai l bits ns x) (zai l bits ns y) (l.length+1) i j
theorem zrF {ns:List Nd} {x y:Int} (hx:zac ns x) (hy:zac ns y) (more:List Nd):zmq (ns++more) y x=zmq ns y x:=by
 funext l bits i j
 unfold zmq
 rw[zav l bits more hx,zav l bits more hy]
section
variable {ns:List Nd} (hf:zaA ns) {x:Int} (hx:zac ns x) {ms:List Nd}
include hf hx
theorem zkv {V:List Nat->List Nat->Nat->Nat->Prop} {s:Nat} {L:List Int} {f:Fm} (hm:∀y,y∈L↔y∈mem ns 4 x) (h:Den V s (fun l bits i j=>L.any (fun y=>zeK ns y l bits i j)) ms f):Den V s (zeK ns x) ms f:=h.val (fun l bits i j _=>by
 unfold zeK
 rw[zd3 hf _ x zqn hx,qZ,jI,jI]
 exact ⟨fun ⟨y,a,c⟩=>⟨y,(hm y).1 a,c⟩,fun ⟨y,a,c⟩=>⟨y,(hm y).2 a,c⟩⟩)
theorem zkw {V:List Nat->List Nat->Nat->Nat->Prop} {s:Nat} {L:List Int} {f:Fm} (hm:∀y,y∈L↔y∈mem ns 5 x) (h:Den V s (fun l bits i j=>L.all (fun y=>zeK ns y l bits i j)) ms f):Den V s (zeK ns x) ms f:=h.val (fun l bits i j _=>by
 unfold zeK
 rw[zc6 hf _ x zqn hx,qZ,jJ,jJ]
 exact ⟨fun a y hy=>a y ((hm y).2 hy),fun a y hy=>a y ((hm y).1 hy)⟩)
theorem zm0 {L:List Int} (hm:∀y,y∈L↔y∈mem ns 4 x) (l bits:List Nat) (i j:Nat):L.all (fun y=>zhh ns y l bits i j)=zhh ns x l bits i j:=by
 unfold zhh
 rw[zd3 hf _ x zqn hx,qZ,jJ,kP,Bool.eq_false_iff]
 constructor
 ·intro a h
  obtain ⟨y,hy,c⟩:=List.any_eq_true.1 h
  have:=a y ((hm y).2 hy)
  rw[c] at this;cases this
 ·intro a y hy
  rw[kP,Bool.eq_false_iff]
  exact fun c=>a (List.any_eq_true.2 ⟨y,(hm y).1 hy,c⟩)
theorem zm1 {L:List Int} (hm:∀y,y∈L↔y∈mem ns 5 x) (l bits:List Nat) (i j:Nat):L.any (fun y=>zhh ns y l bits i j)=zhh ns x l bits i j:=by
 unfold zhh
 rw[zc6 hf _ x zqn hx,qZ,jI,kP,Bool.eq_false_iff]
 constructor
 ·rintro ⟨y,hy,c⟩ h
  have:=List.all_eq_true.1 h y ((hm y).1 hy)
  rw[this] at c;cases c
 ·intro a
  refine Classical.byContradiction fun hno=>a (List.all_eq_true.2 (fun y hy=>?_))
  cases q:zai l bits ns y i j with
  | true=>rfl
  | false=>exact absurd ⟨y,(hm y).2 hy,by rw[q];rfl⟩ hno
theorem zd7 (k:kd ns x=6) (l bits:List Nat) {i j:Nat} (h:i<=j):zeK ns x l bits i j=zhh ns (ka ns x) l bits i j:=by
 unfold zeK zhh
 rw[ziI hf hx k,zeR h]
theorem zuJ (k:kd ns x=0):OfR ns x ms []:=fun l bits i j _=>by rw[zgi];unfold zeK;rw[zlC hf hx k];rfl
omit hf hx in
theorem zjR:OfR ns x ns [[x]]:=fun l bits i j _=>by rw[zrE];rfl
theorem zto (k:kd ns x=6) (k':kd ns (ka ns x)=0):OfR ns x ms [[]]:=fun l bits i j hv=>by
 obtain ⟨a0,_⟩:=zbT hf hx (by omega)
 rw[zgE,zd7 hf hx k l bits hv.2.1]
 unfold zhh
 rw[zlC hf a0 k'];rfl
theorem zrG {b bt:Nat} (k:kd ns x=0\/kd ns x=1\/kd ns x=8):zbF ns x b bt ms []:=fun l bits i j hv=>by
 have:=hv.2.1
 rw[zgi]
 unfold zeK
 rcases k with k | k | k
 ·rw[zlC hf hx k];rfl
 ·rw[zkt hf hx k];unfold eqF;exact (qE (by omega)).symm
 ·rw[zhw hf hx k];unfold zoT;rw[qE (by omega),yC]
theorem zm2 {b bt:Nat} (k:kd ns x=2) (hb:(zaQ ns x.toNat).set.has b=true) {e:Int} {em:List Nd} (hfe:zaA em) (he:zac em e) (hk:kd em e=1) {f:Fm} (h:OfR em e ms f):zbF ns x b bt ms f:=fun l bits i j hv=>by
 rw[h l bits (i+1) j ⟨hv.1,hv.2.1,hv.2.2.1⟩]
 unfold zeK
 rw[zkt hfe he hk,zb8 hf hx k]
 unfold zbL eqF
 rw[hv.2.2.2.1,hb,xR,qZ,qY,qY]
 have:=hv.2.1
 have:=hv.2.2.1
 omega
theorem zjS {b bt:Nat} (k:kd ns x=2) (hb:(zaQ ns x.toNat).set.has b=false):zbF ns x b bt ms []:=fun l bits i j hv=>by
 rw[zgi]
 unfold zeK
 rw[zb8 hf hx k]
 unfold zbL
 rw[hv.2.2.2.1,hb,Bool.and_false]
theorem zpe {b bt:Nat} (k:kd ns x=6) {f d h:Fm} {mid:List Nd} (ha:zbF ns (ka ns x) b bt mid f) (hd:∀P,fP P d=!fP (fun n=>!P n) f)
  (hs:Den V0 0 (fun l bits i j=>d.any (fun p=>p.all (fun n=>zhh mid n l bits i j))) ms h):zbF ns x b bt ms h:=fun l bits i j hv=>by
 have h1:=hs l bits (i+1) j ⟨hv.1,hv.2.1,hv.2.2.1⟩
 have h2:=hd (fun n=>zhh mid n l bits (i+1) j)
 have h3:=ha l bits i j hv
 show fP _ h=_
 refine h1.trans (h2.trans ?_)
 rw[zd7 hf hx k l bits (Nat.le_of_lt hv.2.1)]
 show _=!zeK ns (ka ns x) l bits i j
 rw[<-h3]
 congr 1
 exact zd6 (fun p hp n hn=>by unfold zhh;rw[Bool.not_not])
def zhy (ns:List Nd) (f:Fm) (y:Int) (l bits:List Nat) (i j:Nat):Prop:=∃q,i<=q/\q<=j/\fP (fun n=>zai l bits ns n i q) f=true/\zai l bits ns y q j=true
theorem zkx {b bt:Nat} (k:kd ns x=3) {f a g h:Fm} {mid:List Nd} (ha:zbF ns (ka ns x) b bt mid f) (hy:∀l bits,zai l bits mid (kb ns x)=zai l bits ns (kb ns x)) (hah:∀l bits i j,V0 l bits i j->(fP (fun n=>zai l bits ms n i j) a=true↔zhy mid f (kb ns x) l bits i j)) (hg:zan ns bt (ka ns x)=true->zbF ns (kb ns x) b bt ms g) (hh:∀P,fP P h=(fP P a||(zan ns bt (ka ns x)&&fP P g))):zbF ns x b bt ms h:=fun l bits i j hv=>by
 have hv':=hv
 obtain ⟨gB,g1,g2,g3,g4⟩:=hv
 obtain ⟨⟨a0,_⟩,b0,_⟩:=zaK hf hx (by omega)
 have hn:=ziP (l:=l) (bits:=bits) hf a0 (show i<=l.length by omega) g4
 unfold zeK
 rw[hh,zh4 hf hx k,qZ,yS,qR,zao]
 constructor
 ·rintro (h1 | ⟨h1,h2⟩)
  ·obtain ⟨q,q1,q2,q3,q4⟩:=(hah l bits (i+1) j ⟨gB,by omega,g2⟩).1 h1
   have q3':=(ha l bits i q ⟨gB,by omega,by omega,g3,g4⟩).symm.trans q3
   rw[hy] at q4
   exact ⟨q,by omega,by omega,q2,q3',q4⟩
  ·have h2':=(hg h1 l bits i j hv').symm.trans h2
   exact ⟨i,by omega,qL _,by omega,by rw[hn];exact h1,h2'⟩
 ·rintro ⟨q,q0,q1,q2,q3,q4⟩
  by_cases e:q=i
  ·subst e
   rw[hn] at q3
   exact Or.inr ⟨q3,(hg q3 l bits q j hv').trans q4⟩
  ·refine Or.inl ((hah l bits (i+1) j ⟨gB,by omega,g2⟩).2 ⟨q,by omega,q2,?_,by rw[hy];exact q4⟩)
   exact (ha l bits i q ⟨gB,by omega,by omega,g3,g4⟩).trans q3
theorem zm3 {b bt:Nat} (k:kd ns x=7) {f h:Fm} {mid:List Nd} (ha:zbF ns (ka ns x) b bt mid f) (hy:∀l bits,zai l bits mid x=zai l bits ns x) (hah:∀l bits i j,V0 l bits i j->(fP (fun n=>zai l bits ms n i j) h=true↔zhy mid f x l bits i j)):zbF ns x b bt ms h:=fun l bits i j hv=>by
 obtain ⟨gB,g1,g2,g3,g4⟩:=hv
 rw[qZ,hah l bits (i+1) j ⟨gB,by omega,g2⟩]
 have hw:∀k,k<=l.length->(zai l bits ns x k j=true↔zhf (zai l bits ns (ka ns x)) (l.length+1) k j):=fun q hq=>by rw[zgC hf hx k];exact zfC (by omega)
 unfold zeK
 rw[hw i (by omega)]
 constructor
 ·rintro ⟨q,q1,q2,q3,q4⟩
  have q3':=(ha l bits i q ⟨gB,by omega,by omega,g3,g4⟩).symm.trans q3
  rw[hy,hw q (by omega)] at q4
  exact zmZ q3' (by omega) (by omega) q4
 ·intro hW
  obtain ⟨q,q1,q2,q3,q4⟩:=zlI hW g1 (by omega)
  exact ⟨q,by omega,q2,(ha l bits i q ⟨gB,by omega,by omega,g3,g4⟩).trans q3,by rw[hy,hw q (by omega)];exact q4⟩
end
theorem zm4 {ns ms:List Nd} {f h:Fm} {y:Int} (h1:∀p∈f,p.length=1) (hs:Den V0 0 (fun l bits i j=>f.any (fun p=>p.all (fun n=>zmq ns y n l bits i j))) ms h) (l bits:List Nat) (i j:Nat) (hv:V0 l bits i j):fP (fun n=>zai l bits ms n i j) h=true↔zhy ns f y l bits i j:=by
 have hs':fP (fun n=>zai l bits ms n i j) h=f.any (fun p=>p.all (fun n=>zmq ns y n l bits i j)):=hs l bits i j hv
 have hone:∀p∈f,∃n,p=[n]:=fun p hp=>by
  have:=h1 p hp
  match p,this with
  | [n],_=>exact ⟨n,rfl⟩
 have g2:=hv.2.2
 rw[hs',jI]
 constructor
 ·rintro ⟨p,hp,ht⟩
  obtain ⟨n,rfl⟩:=hone p hp
  rw[yR,gH,xR] at ht
  obtain ⟨q,_,q1,q2,q3,q4⟩:=(zao _ _ _ _ _).1 ht
  exact ⟨q,q1,q2,List.any_eq_true.2 ⟨[n],hp,by rw[yR,gH,xR];exact q3⟩,q4⟩
 ·rintro ⟨q,q1,q2,q3,q4⟩
  obtain ⟨p,hp,ht⟩:=List.any_eq_true.1 q3
  obtain ⟨n,rfl⟩:=hone p hp
  rw[yR,gH,xR] at ht
  exact ⟨[n],hp,by rw[yR,gH,xR];exact (zao _ _ _ _ _).2 ⟨q,by omega,q1,q2,ht,q4⟩⟩
theorem zlK {ns mid ms:List Nd} {f h:Fm} {y z:Int} (hz:∀(l bits:List Nat) (i j:Nat),V0 l bits i j->zai l bits mid z i j=fP (fun n=>zai l bits ns n i j) f) (hy:∀l bits,zai l bits mid y=zai l bits ns y) (hc:Den V0 0 (zmq mid y z) ms h) (l bits:List Nat) (i j:Nat) (hv:V0 l bits i j):fP (fun n=>zai l bits ms n i j) h=true↔zhy ns f y l bits i j:=by
 have hc':fP (fun n=>zai l bits ms n i j) h=zmq mid y z l bits i j:=hc l bits i j hv
 have g1:=hv.2.1
 have g2:=hv.2.2
 rw[hc']
 unfold zmq
 rw[zao]
 constructor
 ·rintro ⟨q,_,q1,q2,q3,q4⟩
  rw[hz l bits i q ⟨hv.1,q1,by omega⟩] at q3
  rw[hy] at q4
  exact ⟨q,q1,q2,q3,q4⟩
 ·rintro ⟨q,q1,q2,q3,q4⟩
  exact ⟨q,by omega,q1,q2,by rw[hz l bits i q ⟨hv.1,q1,by omega⟩];exact q3,by rw[hy];exact q4⟩
end

section
open Go.RowKit
theorem OffF.then {F:Nat->Prop} {w w1 w2:World} (h:OffF F w w1) (hb:Below w1.heap.size w1 w2):OffF F w w2 :=
 ⟨hb.os.trans h.os,hb.tape.trans h.tape,hb.output.trans h.output,qH h.size hb.size,fun b hlt hn=>(hb.block b (qM hlt h.size)).trans (h.block b hlt hn)⟩
theorem OffF.off {F F':Nat->Prop} {w w1 w2:World} (h:OffF F w w1) (h2:OffF F' w1 w2) (hF:∀b,F' b->F b\/w.heap.size<=b):OffF F w w2 :=
 ⟨h2.os.trans h.os,h2.tape.trans h.tape,h2.output.trans h.output,qH h.size h2.size,fun b hlt hn=>(h2.block b (qM hlt h.size) (fun q=>by
  rcases hF b q with c | c
  ·exact hn c
  ·omega)).trans (h.block b hlt hn)⟩
theorem OffF.grown {F:Nat->Prop} {w w1 w2:World} {row:Option Nat} (h:OffF F w w1) (hg:w1.grownBy w2 row) (hr:∀b,row=some b->F b\/w.heap.size<=b):OffF F w w2 :=
 ⟨hg.os.trans h.os,hg.tape.trans h.tape,hg.output.trans h.output,qH h.size hg.size,fun b hlt hn=>(hg.block b (qM hlt h.size) (fun e=>by
  rcases hr b e.symm with c | c
  ·exact hn c
  ·omega)).trans (h.block b hlt hn)⟩
theorem OffF.set {F:Nat->Prop} {w w1:World} {g i:Nat} (h:OffF F w w1) (hg:F g) (v:Value):OffF F w (w1.setCell ⟨g,i,none⟩ v) :=
 ⟨h.os,h.tape,h.output,(by rw[jC];exact h.size),fun b hlt hn=>by
  rw[jL w1 ⟨g,i,none⟩ v b (fun e=>hn (by rw[e];exact hg))]
  exact h.block b hlt hn⟩
end

section
open Go.RowKit
def zaJ (F:Nat->Prop) (w:World) (v:Value) (f:Fm):Prop:=∀w',OffF F w w'->zcF w' v f
theorem zaJ.here {F:Nat->Prop} {w:World} {v:Value} {f:Fm} (h:zaJ F w v f):zcF w v f:=h w ⟨rfl,rfl,rfl,qL _,fun _ _ _=>rfl⟩
theorem zaJ.step {F F':Nat->Prop} {w w1:World} {v:Value} {f:Fm} (h:zaJ F w v f) (ho:OffF F w w1) (hl:∀b,F' b->F b\/w.heap.size<=b):zaJ F' w1 v f:=fun w' q=>h w' (ho.off q hl)
theorem zaJ.next {F:Nat->Prop} {w w1:World} {v:Value} {f:Fm} (h:zaJ F w v f) (hb:Below w.heap.size w w1):zaJ F w1 v f:=h.step (OffF.of hb) (fun b q=>Or.inl q)
def ztp (AA:World->Value->List Nd->(Nat->Prop)->Prop) (Good:List Nd->Fm->Prop) (w:World) (a:Value) (ns:List Nd) (F:Nat->Prop) (R:List Nd->Fm->Prop) (e:Ending) (w':World):Prop :=
 ∃(A:Option Addr) (n c:Nat) (er:Int) (f:Fm) (more:List Nd) (F':Nat->Prop),e=.returned (.tuple #[.slice A n c,.int .i64 er])/\AA w' a (ns++more) F'/\(∀b,F' b->F b\/w.heap.size<=b)/\OffF F w w'/\(er=4\/(er=0/\zaJ F' w' (.slice A n c) f/\Good (ns++more) f/\R (ns++more) f))
structure zm5 (AA:World->Value->List Nd->(Nat->Prop)->Prop) (Good:List Nd->Fm->Prop):Prop where
 awake:∀w:World,Calls Tryz.prog 5 #[] w fun e w'=>e=.returned (.bool true)/\Below w.heap.size w w'
 formed:∀{ns:List Nd} {f:Fm},Good ns f->fmS f=true
 inF:∀{ns:List Nd} {f:Fm},Good ns f->InF ns f
 ofNo:∀{w:World} {a:Value} {ns:List Nd} {F:Nat->Prop} (id:Int),AA w a ns F->I64 id->¬zac ns id->Calls Tryz.prog 8 #[a,.int .i64 id] w fun e w'=>∃(A:Option Addr) (c:Nat),e=.returned (.tuple #[.slice A 0 c,.int .i64 1])/\AA w' a ns F/\Below w.heap.size w w'
 of:∀{w:World} {a:Value} {ns:List Nd} {F:Nat->Prop} (id:Int),AA w a ns F->zac ns id->Calls Tryz.prog 8 #[a,.int .i64 id] w (ztp AA Good w a ns F fun ms f=>OfR ns id ms f)
 next:∀{w:World} {a:Value} {ns:List Nd} {F:Nat->Prop} {A:Option Addr} {n c:Nat} {f:Fm} (b bt:Nat),AA w a ns F->zaJ F w (.slice A n c) f->Good ns f->b<256->bt<256->Calls Tryz.prog 14 #[a,.slice A n c,.int .u8 b,.int .u8 bt] w (ztp AA Good w a ns F fun ms h=>Den (V1 b bt) 1 (fun l bits i j=>f.any (fun p=>p.all (fun x=>zeK ns x l bits i j))) ms h)
 accepts:∀{w:World} {a:Value} {ns:List Nd} {F:Nat->Prop} {A:Option Addr} {n c:Nat} {f:Fm} (bt:Nat),AA w a ns F->zcF w (.slice A n c) f->Good ns f->bt<256->Calls Tryz.prog 13 #[a,.slice A n c,.int .u8 bt] w fun e w'=>e=.returned (.bool (fP (fun x=>zan ns bt x) f))/\Below w.heap.size w w'
end

section
open Go.RowKit
theorem OffF.cellO {F:Nat->Prop} {w w':World} (ho:OffF F w w') {b o:Nat} (hlt:b<w.heap.size) (hn:¬F b):w'.cell? ⟨b,o,none⟩=w.cell? ⟨b,o,none⟩:=by
 unfold World.cell?
 rw[ho.block b hlt hn]
structure zqK (w:World) (lo hi ga N:Nat) (T:Nat->Bool):Prop where
 big:hi<=w.heap.size
 ex:∃r,(lo<=ga/\ga<hi)/\(lo<=r/\r<hi)/\w.cell? ⟨ga,0,none⟩=some (.slice (some ⟨r,0,none⟩) N N)/\∀j,j<N->w.cell? ⟨r,j,none⟩=some (.bool (T j))
theorem zau.rowT {w:World} {base lo ga N:Nat} {ra:Nat->Nat} {f:Nat->Nat->Bool} (h:zau w 41 4 base ga N ra f) (h0:0<N) (hl:lo<=base):zqK w lo w.heap.size ga N (f 0) :=
 ⟨qL _,ra 0,⟨qH hl h.low,h.top.lt⟩,⟨qH hl (h.rlow 0 h0).1,(h.row 0 h0).lt⟩,h.cellTop h0,fun j hj=>h.cellRow h0 hj⟩
theorem zqK.off {w w':World} {lo hi ga N:Nat} {T:Nat->Bool} {F:Nat->Prop} (h:zqK w lo hi ga N T) (ho:OffF F w w') (hF:∀b,F b->b<lo\/hi<=b):zqK w' lo hi ga N T:=by
 obtain ⟨r,a1,a2,a5,a6⟩:=h.ex
 have hb:=h.big
 have n1:¬F ga:=fun q=>by have:=hF ga q;omega
 have n2:¬F r:=fun q=>by have:=hF r q;omega
 exact ⟨qH hb ho.size,r,a1,a2,(ho.cellO (by omega) n1).trans a5,fun j hj=>(ho.cellO (by omega) n2).trans (a6 j hj)⟩
theorem zqK.next {w w':World} {lo hi ga N:Nat} {T:Nat->Bool} (h:zqK w lo hi ga N T) (hb:Below w.heap.size w w'):zqK w' lo hi ga N T:=h.off (F:=fun _=>False) (OffF.of hb) (fun b q=>q.elim)
theorem zpf {w:World} {A:Option Addr} {n:Nat} {l:List Nat} (h:zdf w A n l) {k:Nat} (hk:k<n):∃b off,A=some ⟨b,off,none⟩/\b<w.heap.size/\w.cell? ⟨b,off+k,none⟩=some (.int .u8 ((l[k]?).getD 0:Nat))/\(l[k]?).getD 0<256:=by
 obtain ⟨h1,_,h2,h3⟩:=h
 obtain ⟨b,off,e,hlt,hc⟩:=h3 (by omega)
 have hl:k<l.length:=by omega
 have ee:(l[k]?).getD 0=l[k]:=by rw[qI hl];rfl
 exact ⟨b,off,e,hlt,by rw[ee];exact hc k hl,by rw[ee];exact h2 k hl⟩
end

section
open Go.RowKit
structure zh6 (AA:World->Value->List Nd->(Nat->Prop)->Prop) (W:World) (a:Value) (T:Nat->Bool) (lo hi ga N:Nat) (w:World) (ns:List Nd) (F:Nat->Prop):Prop where
 aa:AA w a ns F
 own:∀b,F b->W.heap.size<=b
 out:∀b,F b->b<lo\/hi<=b
 below:Below W.heap.size W w
 row:zqK w lo hi ga N T
section
variable {AA:World->Value->List Nd->(Nat->Prop)->Prop} {W w w':World} {a:Value} {T:Nat->Bool} {lo hi ga N:Nat} {ns:List Nd} {F:Nat->Prop}
theorem zh6.below' (S:zdq AA) (h:zh6 AA W a T lo hi ga N w ns F) (hb:Below w.heap.size w w'):zh6 AA W a T lo hi ga N w' ns F :=
 ⟨S.next h.aa hb,h.own,h.out,h.below.trans (hb.mono h.below.size),h.row.next hb⟩
theorem zh6.off (h:zh6 AA W a T lo hi ga N w ns F) {more:List Nd} {F':Nat->Prop} (hA:AA w' a (ns++more) F') (hF:∀b,F' b->F b\/w.heap.size<=b) (ho:OffF F w w'):zh6 AA W a T lo hi ga N w' (ns++more) F' where
 aa:=hA
 own:=fun b q=>by
  rcases hF b q with q | q
  ·exact h.own b q
  ·exact qH h.below.size q
 out:=fun b q=>by
  rcases hF b q with q | q
  ·exact h.out b q
  ·exact Or.inr (qH h.row.big q)
 below:=h.below.trans (ho.below h.own h.below.size)
 row:=h.row.off ho h.out
end
theorem ziQ (n i:Nat):((List.replicate n 0)[i]?).getD 0=0:=by
 by_cases h:i<n
 ·simp[h]
 ·rw[List.getElem?_eq_none (by simpa using h)];rfl
end
end Go.Proofs.YtdmodhnhldbpnaaGreat
