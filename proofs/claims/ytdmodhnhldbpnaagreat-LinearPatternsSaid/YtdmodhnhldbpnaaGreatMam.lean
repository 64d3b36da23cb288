/- Joined: NormOrM, GnOrM, GnBytes, GnThere, NormOrF, NormMembers. -/
import Derived.Test.YtdmodhnhldbpnaaGreatMak
import Derived.Test.YtdmodhnhldbpnaaGreatMal
import Derived.Test.YtdmodhnhldbpnaaGreatMaj
import Derived.Test.YtdmodhnhldbpnaaGreatMai
import Derived.Test.YtdmodhnhldbpnaaGreatAid
/- What the members of nodes are put together to: mathematics; no program is named. -/
set_option linter.unusedSectionVars false
set_option linter.unusedSimpArgs false
set_option linter.unusedVariables false
set_option maxHeartbeats 16000000
set_option maxRecDepth 100000
namespace Go.Proofs.YtdmodhnhldbpnaaGreat
section
open Go.RowKit
structure ziY (ns:List Nd) (k:Int) (l ms:List Int):Prop where
 lin:∀x∈l,zac ns x
 nd:ms.Nodup
 iff:∀y,y∈ms↔∃x∈l,y∈mem ns k x
def za2 (ns:List Nd) (k y:Int):Bool:=!decide (kd ns y=2)&&!zev ns k y
def zaP (ns:List Nd) (k:Int) (ms:List Int) (U:St):Prop:=U.Ok/\∀b,b<256->((U.has b != decide (k=5))=true↔∃y∈ms,kd ns y=2/\((zaQ ns y.toNat).set.has b != decide (k=5))=true)
section
variable {ns:List Nd} (hc:Canon ns) {k:Int} (hk:k=4\/k=5)
include hc hk
end
end

section
open Go.RowKit
section
variable {ns:List Nd} (hf:zaA ns) {k:Int} (hk:k=4\/k=5)
include hf hk
theorem ziY.innF {l ms:List Int} (h:ziY ns k l ms) {y:Int} (hy:y∈ms):zac ns y/\kd ns y≠k:=by
 obtain ⟨x,hx,hyx⟩:=(h.iff y).1 hy
 have:=zcs hf hk _ x zqn (h.lin x hx) y hyx
 exact ⟨this.1,this.2.2⟩
end
theorem ziZ {n:Nat} {ms:List Int} (hp:ms.Nodup) (h:∀z∈ms,0<=z/\z<(n:Int)):ms.length<=n:=by
 have:∀(s m:List Int),s.Nodup->(∀z∈s,z∈m)->s.length<=m.length:=by
  intro s
  induction s with
  | nil=>intro m _ _;exact qK _
  | cons x s ih =>
   intro m hp h
   obtain ⟨h1,h2⟩:=List.nodup_cons.1 hp
   have hx:x∈m:=h x (by simp)
   have ih:=ih (m.erase x) h2 (fun z hz=>(List.mem_erase_of_ne (fun e=>h1 (by rw[<-e];exact hz))).2 (h z (qX _ hz)))
   have:=List.length_erase_of_mem hx
   have hpos:0<m.length:=List.length_pos_of_mem hx
   rw[jX]
   omega
 have:=this ms ((List.range n).map Int.ofNat) hp (fun z hz=>by
  obtain ⟨h0,h1⟩:=h z hz
  exact List.mem_map.2 ⟨z.toNat,List.mem_range.2 (by omega),by show ((z.toNat:Nat):Int)=z;omega⟩)
 simpa using this
theorem zkI {l:List Int} {f g:Int->Bool} (h:∀x∈l,f x=g x):l.any f=l.any g:=by
 induction l with
 | nil=>rfl
 | cons x l ih=>rw[xQ,xQ,h x (by simp),ih (fun y hy=>h y (qX _ hy))]
theorem zkJ {l:List Int} {f g:Int->Bool} (h:∀x∈l,f x=g x):l.all f=l.all g:=by
 induction l with
 | nil=>rfl
 | cons x l ih=>rw[yR,yR,h x (by simp),ih (fun y hy=>h y (qX _ hy))]
theorem ze9 {ns:List Nd} (hf:zaA ns) {x:Int} (hx:zac ns x) (k:kd ns x=0) {l bits:List Nat} {i j:Nat}:zai l bits ns x i j=false:=by rw[zlC hf hx k];rfl
section
variable {ns:List Nd} (hf:zaA ns)
include hf
theorem zid {l ms:List Int} (h:ziY ns 4 l ms) (L bits:List Nat) (i j:Nat):l.any (fun x=>zai L bits ns x i j)=ms.any (fun x=>zai L bits ns x i j):=by
 rw[qZ,jI,jI]
 constructor
 ·rintro ⟨x,hx,ht⟩
  rw[zd3 hf _ x zqn (h.lin x hx),jI] at ht
  obtain ⟨y,hy,hty⟩:=ht
  exact ⟨y,(h.iff y).2 ⟨x,hx,hy⟩,hty⟩
 ·rintro ⟨y,hy,hty⟩
  obtain ⟨x,hx,hyx⟩:=(h.iff y).1 hy
  exact ⟨x,hx,by rw[zd3 hf _ x zqn (h.lin x hx),jI];exact ⟨y,hyx,hty⟩⟩
theorem zgJ {k:Int} {y:Int} (h:za2 ns k y=false):kd ns y=2\/zev ns k y=true:=by
 unfold za2 at h
 by_cases e:kd ns y=2
 ·exact Or.inl e
 ·rw[qE e] at h
  right
  cases q:zev ns k y with
  | true=>rfl
  | false=>rw[q] at h;cases h
theorem zie {l ms:List Int} {U:St} (h:ziY ns 4 l ms) (hU:zaP ns 4 ms U) (L bits:List Nat) (hL:Byt L) (i j:Nat):ms.any (fun x=>zai L bits ns x i j)=((ms.filter (za2 ns 4)).any (fun x=>zai L bits ns x i j)||zbL U L i j):=by
 have hb:∀b,b<256->(U.has b=true↔∃y∈ms,kd ns y=2/\(zaQ ns y.toNat).set.has b=true):=fun b hb=>by
  have:=hU.2 b hb
  rw[show decide ((4:Int)=5)=false from rfl,Bool.bne_false] at this
  simpa using this
 have hlt:∀i,i<L.length->(L[i]?).getD 0<256:=fun i hi=>by
  rw[qI hi];exact hL _ (qG hi)
 rw[qZ,yS,jI,jI]
 constructor
 ·rintro ⟨y,hy,ht⟩
  have hi:=(h.innF hf (Or.inl rfl) hy).1
  cases ho:za2 ns 4 y with
  | true=>exact Or.inl ⟨y,List.mem_filter.2 ⟨hy,ho⟩,ht⟩
  | false =>
   rcases zgJ hf ho with k2 | ku
   ·right
    rw[zb8 hf hi k2] at ht
    unfold zbL at ht ⊢
    rw[qR,qY] at ht
    rw[qR,qY]
    exact ⟨ht.1,(hb _ (hlt i ht.1.2)).2 ⟨y,hy,k2,ht.2⟩⟩
   ·rw[ze9 hf hi (jB ku)] at ht;cases ht
 ·rintro (⟨y,hy,ht⟩ | ht)
  ·exact ⟨y,(List.mem_filter.1 hy).1,ht⟩
  ·unfold zbL at ht
   rw[qR,qY] at ht
   obtain ⟨y,hy,k2,hh⟩:=(hb _ (hlt i ht.1.2)).1 ht.2
   refine ⟨y,hy,?_⟩
   rw[zb8 hf (h.innF hf (Or.inl rfl) hy).1 k2]
   unfold zbL
   rw[hh,qD ht.1];rfl
theorem zfI {U:St} (h:∀b,b<256->U.has b=false) {L:List Nat} (hL:Byt L) (i j:Nat):zbL U L i j=false:=by
 unfold zbL
 by_cases e:j=i+1/\i<L.length
 ·rw[h _ (by rw[qI e.2];exact hL _ (qG e.2)),Bool.and_false]
 ·rw[qE e,yC]
theorem ztF {l ms:List Int} (h:ziY ns 4 l ms) {y:Int} (hy:y∈ms) (ha:zfw ns y=true):zda ns 4 l ns y:=fun L bits i j hL h1 h2=>by
 rw[if_pos rfl,zid hf h,zux hf (h.innF hf (Or.inl rfl) hy).1 ha,qD h1]
 refine (List.any_eq_true.2 ⟨y,hy,?_⟩).symm
 rw[zux hf (h.innF hf (Or.inl rfl) hy).1 ha,qD h1]
theorem zrT {m1 ms2:List Nd} {l ms:List Int} {U:St} {r:Int} (h:ziY ns 4 l ms) (hU:zaP ns 4 ms U) (he:∀b,b<256->U.has b=false) (hr:zda (ns++m1) 4 (ms.filter (za2 ns 4)) ms2 r):zda ns 4 l ms2 r:=fun L bits i j hL h1 h2=>by
 rw[hr L bits i j hL h1 h2,if_pos rfl,if_pos rfl,zid hf h,zie hf h hU L bits hL,zfI hf he hL,Bool.or_false]
 refine zkI (fun y hy=>?_)
 rw[zav L bits m1 (h.innF hf (Or.inl rfl) (List.mem_filter.1 hy).1).1]
theorem zrU {m1 ms2:List Nd} {l ms:List Int} {U:St} {b r:Int} (hf1:zaA (ns++m1)) (h:ziY ns 4 l ms) (hU:zaP ns 4 ms U) (hb:zac (ns++m1) b) (hn:zaQ (ns++m1) b.toNat=⟨2,U,0,0,false⟩) (hr:zda (ns++m1) 4 (ms.filter (za2 ns 4)++[b]) ms2 r):zda ns 4 l ms2 r:=fun L bits i j hL h1 h2=>by
 rw[hr L bits i j hL h1 h2,if_pos rfl,if_pos rfl,zid hf h,zie hf h hU L bits hL,yX,xQ,List.any_nil,Bool.or_false]
 have e1:zai L bits (ns++m1) b i j=zbL U L i j:=by
  rw[zb8 hf1 hb (by unfold kd;rw[hn]),hn]
 rw[e1]
 congr 1
 refine zkI (fun y hy=>?_)
 rw[zav L bits m1 (h.innF hf (Or.inl rfl) (List.mem_filter.1 hy).1).1]
theorem zrV {more:List Nd} {l ms:List Int} {U:St} {r:Int} (hfm:zaA (ns++more)) (h:ziY ns 4 l ms) (hU:zaP ns 4 ms U) (he:∀b,b<256->U.has b=false) (ho:ms.filter (za2 ns 4)=[]) (hr:zac (ns++more) r) (k0:kd (ns++more) r=0):zda ns 4 l (ns++more) r:=fun L bits i j hL h1 h2=>by
 rw[if_pos rfl,zid hf h,zie hf h hU L bits hL,zfI hf he hL,ho,ze9 hfm hr k0];rfl
theorem zfa {l ms:List Int} (h:ziY ns 5 l ms) (L bits:List Nat) (i j:Nat):l.all (fun x=>zai L bits ns x i j)=ms.all (fun x=>zai L bits ns x i j):=by
 rw[qZ,jJ,jJ]
 constructor
 ·intro hl y hy
  obtain ⟨x,hx,hyx⟩:=(h.iff y).1 hy
  have ht:=hl x hx
  rw[zc6 hf _ x zqn (h.lin x hx),jJ] at ht
  exact ht y hyx
 ·intro hm x hx
  rw[zc6 hf _ x zqn (h.lin x hx),jJ]
  exact fun y hy=>hm y ((h.iff y).2 ⟨x,hx,hy⟩)
theorem zfb {l ms:List Int} {U:St} {hb:Bool} (h:ziY ns 5 l ms) (hU:zaP ns 5 ms U) (hB:hb=true↔∃y∈ms,kd ns y=2) (L bits:List Nat) (hL:Byt L) {i j:Nat} (hij:i<=j):ms.all (fun x=>zai L bits ns x i j)=((ms.filter (za2 ns 5)).all (fun x=>zai L bits ns x i j)&&(!hb||zbL U L i j)):=by
 have hbu:∀b,b<256->(U.has b=true↔∀y∈ms,kd ns y=2->(zaQ ns y.toNat).set.has b=true):=fun b hb=>by
  have h1:=hU.2 b hb
  rw[show decide ((5:Int)=5)=true from rfl] at h1
  constructor
  ·intro hu y hy k2
   cases q:(zaQ ns y.toNat).set.has b with
   | true=>rfl
   | false =>
    have:=h1.2 ⟨y,hy,k2,by rw[q];rfl⟩
    rw[hu] at this;cases this
  ·intro hall
   cases q:U.has b with
   | true=>rfl
   | false =>
    rw[q] at h1
    obtain ⟨y,hy,k2,hh⟩:=h1.1 rfl
    rw[hall y hy k2] at hh;cases hh
 have hlt:∀i,i<L.length->(L[i]?).getD 0<256:=fun i hi=>by
  rw[qI hi];exact hL _ (qG hi)
 rw[qZ,qR,jJ,jJ]
 constructor
 ·intro hm
  refine ⟨fun y hy=>hm y (List.mem_filter.1 hy).1,?_⟩
  cases hb with
  | false=>rfl
  | true =>
   obtain ⟨y,hy,k2⟩:=hB.1 rfl
   have ht:=hm y hy
   rw[zb8 hf (h.innF hf (Or.inr rfl) hy).1 k2] at ht
   unfold zbL at ht ⊢
   rw[qR,qY] at ht
   rw[(hbu _ (hlt i ht.1.2)).2 (fun z hz kz=>?_),qD ht.1]
   ·rfl
   ·have hz':=hm z hz
    rw[zb8 hf (h.innF hf (Or.inr rfl) hz).1 kz] at hz'
    unfold zbL at hz'
    rw[qR] at hz'
    exact hz'.2
 ·rintro ⟨h1,h2⟩ y hy
  have hi:=(h.innF hf (Or.inr rfl) hy).1
  cases ho:za2 ns 5 y with
  | true=>exact h1 y (List.mem_filter.2 ⟨hy,ho⟩)
  | false =>
   rcases zgJ hf ho with k2 | ku
   ·have:hb=true:=hB.2 ⟨y,hy,k2⟩
    subst this
    have h2:zbL U L i j=true:=h2
    rw[zb8 hf hi k2]
    unfold zbL at h2 ⊢
    rw[qR,qY] at h2
    rw[(hbu _ (hlt i h2.1.2)).1 h2.2 y hy k2,qD h2.1];rfl
   ·have ku:zfw ns y=true:=ku
    rw[zux hf hi ku,qD hij]
theorem zrW {l ms:List Int} (h:ziY ns 5 l ms) {y:Int} (hy:y∈ms) (ha:zmO ns y=true):zda ns 5 l ns y:=fun L bits i j hL h1 h2=>by
 have hi:=(h.innF hf (Or.inr rfl) hy).1
 rw[if_neg (by decide),zfa hf h,ze9 hf hi (jB ha)]
 refine (Bool.eq_false_iff.2 (fun q=>?_)).symm
 have:=List.all_eq_true.1 q y hy
 rw[ze9 hf hi (jB ha)] at this;cases this
theorem zpt {m1 ms2:List Nd} {l ms:List Int} {U:St} {r:Int} (h:ziY ns 5 l ms) (hU:zaP ns 5 ms U) (hB:∀y∈ms,kd ns y≠2) (hr:zda (ns++m1) 5 (ms.filter (za2 ns 5)) ms2 r):zda ns 5 l ms2 r:=fun L bits i j hL h1 h2=>by
 have hB':(false=true)↔∃y∈ms,kd ns y=2:=⟨fun q=>absurd q (by simp),fun ⟨y,hy,q⟩=>absurd q (hB y hy)⟩
 rw[hr L bits i j hL h1 h2,if_neg (by decide),if_neg (by decide),zfa hf h,zfb hf h hU hB' L bits hL h1,Bool.not_false,Bool.true_or,xR]
 refine zkJ (fun y hy=>?_)
 rw[zav L bits m1 (h.innF hf (Or.inr rfl) (List.mem_filter.1 hy).1).1]
theorem zpu {m1 ms2:List Nd} {l ms:List Int} {U:St} {b r:Int} (hf1:zaA (ns++m1)) (h:ziY ns 5 l ms) (hU:zaP ns 5 ms U) (hB:∃y∈ms,kd ns y=2) (hb:zac (ns++m1) b) (hn:zaQ (ns++m1) b.toNat=⟨2,U,0,0,false⟩) (hr:zda (ns++m1) 5 (ms.filter (za2 ns 5)++[b]) ms2 r):zda ns 5 l ms2 r:=fun L bits i j hL h1 h2=>by
 have hB':(true=true)↔∃y∈ms,kd ns y=2:=⟨fun _=>hB,fun _=>rfl⟩
 rw[hr L bits i j hL h1 h2,if_neg (by decide),if_neg (by decide),zfa hf h,zfb hf h hU hB' L bits hL h1,xT,yR,gH,xR,kN,gK]
 have e1:zai L bits (ns++m1) b i j=zbL U L i j:=by
  rw[zb8 hf1 hb (by unfold kd;rw[hn]),hn]
 rw[e1]
 congr 1
 refine zkJ (fun y hy=>?_)
 rw[zav L bits m1 (h.innF hf (Or.inr rfl) (List.mem_filter.1 hy).1).1]
theorem zpv {more:List Nd} {l ms:List Int} {U:St} {r:Int} (hfm:zaA (ns++more)) (h:ziY ns 5 l ms) (hU:zaP ns 5 ms U) (he:∀b,b<256->U.has b=false) (hr:zac (ns++more) r) (k0:kd (ns++more) r=0):zda ns 5 l (ns++more) r:=fun L bits i j hL h1 h2=>by
 have hB:∃y∈ms,kd ns y=2:=by
  have:=(hU.2 0 (by omega)).1 (by rw[he 0 (by omega)];rfl)
  obtain ⟨y,hy,k2,_⟩:=this
  exact ⟨y,hy,k2⟩
 have hB':(true=true)↔∃y∈ms,kd ns y=2:=⟨fun _=>hB,fun _=>rfl⟩
 rw[if_neg (by decide),zfa hf h,zfb hf h hU hB' L bits hL h1,zfI hf he hL,ze9 hfm hr k0]
 simp
theorem zrX {more:List Nd} {l ms:List Int} {U:St} {r:Int} (hfm:zaA (ns++more)) (h:ziY ns 5 l ms) (hU:zaP ns 5 ms U) (hB:∀y∈ms,kd ns y≠2) (ho:ms.filter (za2 ns 5)=[]) (hr:zac (ns++more) r) (ha:zfw (ns++more) r=true):zda ns 5 l (ns++more) r:=fun L bits i j hL h1 h2=>by
 have hB':(false=true)↔∃y∈ms,kd ns y=2:=⟨fun q=>absurd q (by simp),fun ⟨y,hy,q⟩=>absurd q (hB y hy)⟩
 rw[if_neg (by decide),zfa hf h,zfb hf h hU hB' L bits hL h1,ho,zux hfm hr ha,qD h1]
 simp
end
section
variable {AA:World->Value->List Nd->(Nat->Prop)->Prop}
theorem zea (S:ArenaMid AA) {ns m1:List Nd} {k:Int} {w w1 w2:World} {a v:Value} {F F1:Nat->Prop} {L:List Int} {e:Ending} {R:List Nd->Int->Prop} (hF1:∀b,F1 b->F b\/w.heap.size<=b) (ho1:OffF F w w1) (hv:∀b,v.ownBlock=some b->w.heap.size<=b)
  (hp:zjZ AA w1 a v (ns++m1) F1 k L e w2) (hR:∀more r,zaA ((ns++m1)++more)->zda (ns++m1) k L ((ns++m1)++more) r->(∀x∈L,zac (ns++m1) x)->R ((ns++m1)++more) r):Got AA w a ns F R e w2:=by
 obtain ⟨r,more,F',rfl,h1,h2,h3,h4⟩:=hp
 have hfi:=S.fine h1
 refine ⟨r,m1++more,F',rfl,by rw[<-jQ];exact h1,fun b q=>?_,?_,by rw[<-jQ];exact h4.imp id (fun z=>⟨z.1,hR more r hfi z.2.1 z.2.2⟩)⟩
 ·rcases h2 b q with c | c
  ·exact hF1 b c
  ·exact Or.inr (qH ho1.size c)
 ·refine ⟨h3.os.trans ho1.os,h3.tape.trans ho1.tape,h3.output.trans ho1.output,qH ho1.size h3.size,fun b hb hn=>?_⟩
  rw[h3.block b (qM hb ho1.size) (fun z=>by
   rcases z with z | z
   ·rcases hF1 b z with c | c
    ·exact hn c
    ·omega
   ·have:=hv b z;omega)]
  exact ho1.block b hb hn
end
end

section
open Go.RowKit
section
variable {AA:World->Value->List Nd->(Nat->Prop)->Prop}
theorem zqR (S:ArenaMid AA) {w:World} {a:Value} {ns:List Nd} {F:Nat->Prop} (h:AA w a ns F):Calls Tryz.prog 89 #[a,.int .i64 (-1)] w fun e w'=>e=.returned (.int .i64 (-1))/\Below w.heap.size w w':=by
 have HA:=zqh h
 have HN:=zqh (S.node (-1) h (by unfold I64;omega))
 have hdec:decide (0<=(-1:Int)/\(-1:Int)<(ns.length:Int))=false:=qE (by omega)
 rw[hdec] at HN
 clear h hdec
 go_enter Tryz.func89,Tryz.ntmps89
 go_wp2_with fail
 refine HN.out.mono ?_
 rintro e w1 ⟨y,rfl,_,hb1,hz⟩
 obtain rfl:=hz (by omega)
 have HB1:=zqh hb1
 have hone:=Nd.one Nd.zero
 have HXb:=zqh (zbq w1 Nd.zero)
 have HBb:=zqh (HB1.out.trans ((zaN w1 Nd.zero).mono HB1.out.size))
 have ck:=(Nd.cells HXb.out).1
 clear hb1 hz
 have HP:=zqh (zqN S ⟨6,zbn,-1,0,false⟩ (S.next HA.out HBb.out) (zcb _ _ _ _ (by unfold I64;omega) (by unfold I64;omega) (by unfold I64;omega)) (by unfold Nd.right aIn;simp))
 go_wp2_with (first
  |(with_reducible show wpList _ _ _ (⟨none,.store _ _ _,_,_,_,_⟩::_) _ _
    refine qN rfl 61 _ _ rfl w1.heap.size Nd.zero.cs.toArray rfl rfl 61 Nd.zero.cs.toArray (At.new _ _ _) (by kernel_rfl) rfl hone ?_
    first | change wpList _ _ _ _ _ (zaD w1 Nd.zero) | change Exit.then _ _ _ _ (zaD w1 Nd.zero))
  | fail)
 refine HP.out.mono ?_
 rintro e w2 ⟨rfl,hb2⟩
 have HB2:=zqh (HBb.out.trans (hb2.mono HBb.out.size))
 clear hb2
 go_wp2_with fail
 go_ret
 exact ⟨rfl,HB2.out⟩
theorem zvR (S:ArenaAny AA) {w:World} {a:Value} {ns:List Nd} {F:Nat->Prop} (h:AA w a ns F):Calls Tryz.prog 131 #[a] w (Got AA w a ns F fun ms r=>zfw ms r=true):=by
 have HP:=zqh (znl S h)
 clear h
 go_enter Tryz.func131,Tryz.ntmps131
 go_wp2_with fail
 refine HP.out.mono ?_
 rintro e w1 ⟨r1,more1,F1,rfl,g1,g2,g3,g4⟩
 have H1:=zqh g1
 have H2:=zqh g2
 have H3:=zqh g3
 rcases g4 with rfl | ⟨g5,g6⟩
 ·have HQ:=zqh (zqR S.toArenaMid g1)
  clear g1 g2 g3
  go_wp2_with fail
  refine HQ.out.mono ?_
  rintro e w2 ⟨rfl,hb⟩
  have HG:Hid (Got AA w a ns F (fun ms r=>zfw ms r=true) (.returned (.int .i64 (-1))) w2):=zqh (Got.seq H2.out H3.out (Got.no S.toArenaMid H1.out hb))
  clear hb
  go_wp2_with fail
  go_ret
  exact HG.out
 ·have HQ:=zqh (zuW S r1 g1 g5)
  have H5:=zqh g5
  have H6:=zqh g6
  clear g1 g2 g3 g5 g6
  go_wp2_with fail
  refine HQ.out.mono ?_
  rintro e w2 g
  obtain ⟨r,_,_,rfl,_⟩:=id g
  have HG:Hid (Got AA w a ns F (fun ms r=>zfw ms r=true) (.returned (.int .i64 r)) w2):=zqh (Got.seq H2.out H3.out (g.mono (fun more r q _ _=>by
   have hk:kd ((ns++more1)++more) r1=0:=by rw[zbt H5.out,H6.out]
   obtain ⟨k1,k2⟩:=q.2.2 (by rw[hk];decide)
   unfold zfw
   rw[k1,k2,hk];rfl) S.toArenaMid))
  clear g
  go_wp2_with fail
  go_ret
  exact HG.out
theorem znq (S:ArenaAny AA) {w:World} {a:Value} {ns:List Nd} {F:Nat->Prop} (s:St) (h:AA w a ns F) (hs:s.Ok):Calls Tryz.prog 84 #[a,.agg #[.int .u64 s.w0,.int .u64 s.w1,.int .u64 s.w2,.int .u64 s.w3]] w (Got AA w a ns F fun ms r=>(s.list.length=0/\kd ms r=0)\/(s.list.length≠0/\zaQ ms r.toNat=⟨2,s,0,0,false⟩)):=by
 have HB:Hid (Below w.heap.size w (w.alloc (.cells #[.int .u64 s.w0,.int .u64 s.w1,.int .u64 s.w2,.int .u64 s.w3] 46))):=zqh (zqb)
 have HA:=zqh (S.next h HB.out)
 have HS:=zqh hs
 have HCt:=zqh (zh9 s hs (w.alloc (.cells #[.int .u64 s.w0,.int .u64 s.w1,.int .u64 s.w2,.int .u64 s.w3] 46)))
 clear h hs
 go_enter Tryz.func84,Tryz.ntmps84
 go_wp2_with fail
 refine HCt.out.mono ?_
 rintro e w1 ⟨rfl,hb1⟩
 have HB1:=zqh (HB.out.trans (hb1.mono HB.out.size))
 have HA1:=zqh (S.next HA.out hb1)
 have hcell:=fun (i:Nat)=>((zbW hb1).1 w.heap.size i (by simp)).trans ((At.new w 46 #[.int .u64 s.w0,.int .u64 s.w1,.int .u64 s.w2,.int .u64 s.w3]).cell i)
 have c0:w1.cell? ⟨w.heap.size,0,none⟩=some (.int .u64 s.w0):=hcell 0
 have c1:w1.cell? ⟨w.heap.size,1,none⟩=some (.int .u64 s.w1):=hcell 1
 have c2:w1.cell? ⟨w.heap.size,2,none⟩=some (.int .u64 s.w2):=hcell 2
 have c3:w1.cell? ⟨w.heap.size,3,none⟩=some (.int .u64 s.w3):=hcell 3
 clear hb1 hcell
 obtain ⟨n,hn⟩:∃n,n=s.list.length:=⟨_,rfl⟩
 rw[<-hn]
 have HN:=zqh hn
 clear hn
 by_cases h0:n=0
 ·have HP:=zqh (znl S HA1.out)
  have HN0:=zqh h0
  subst h0
  go_wp2_with fail
  refine HP.out.mono ?_
  rintro e w2 g
  obtain ⟨r,_,_,rfl,_⟩:=id g
  have HG:=zqh ((g.from HB1.out).mono (R':=fun ms r=>(s.list.length=0/\kd ms r=0)\/(s.list.length≠0/\zaQ ms r.toNat=⟨2,s,0,0,false⟩)) (fun more r q _ _=>Or.inl ⟨HN.out.symm,q⟩) S.toArenaMid)
  clear g
  go_wp2_with fail
  go_ret
  exact HG.out
 ·have hne:¬((n:Int)=0):=by omega
  have hnb:=(zab hne).1
  have hnb':(((n:Nat):Int)==0)=false:=hnb
  have HNe:Hid (s.list.length≠0):=zqh (by rw[<-HN.out];exact h0)
  have HP:=zqh (zqQ S ⟨2,s,0,0,false⟩ HA1.out ⟨by unfold I64;dsimp only;omega,HS.out,by unfold I64;dsimp only;omega,by unfold I64;dsimp only;omega⟩ (by unfold Nd.right;rw[if_neg (by simp),if_pos rfl];exact Nd.eqb_self _))
  clear h0 hne
  go_wp2_with fail
  refine HP.out.mono ?_
  rintro e w2 g
  obtain ⟨r,_,_,rfl,_⟩:=id g
  have HG:=zqh ((g.from HB1.out).mono (R':=fun ms r=>(s.list.length=0/\kd ms r=0)\/(s.list.length≠0/\zaQ ms r.toNat=⟨2,s,0,0,false⟩)) (fun more r q _ _=>Or.inr ⟨HNe.out,q⟩) S.toArenaMid)
  clear g
  go_wp2_with fail
  go_ret
  exact HG.out
end
end

section
open Go.RowKit
section
variable {AA:World->Value->List Nd->(Nat->Prop)->Prop}
theorem zfc (S:ArenaMid AA) {w:World} {a v:Value} {ns:List Nd} {F:Nat->Prop} (l:List Int) (h:AA w a ns F) (hv:zb1 w v l) (hl:l.length<=20000) (hN:∃x∈l,¬zac ns x):Calls Tryz.prog 124 #[a,v] w fun e w'=>e=.returned (.bool false)/\w'=w:=by
 obtain ⟨A,c,rfl,hv⟩:=hv
 have HV:=zqh hv
 have HI:=zqh hN
 have hmx:=S.max h
 have HA:=zqh h
 have HL:=zqh (S.len h)
 clear hv hN h
 go_enter Tryz.func124,Tryz.ntmps124
 go_wp2_with fail
 go_loopw [9] (fun i wr=>∃j:Nat,j<=l.length/\i=.int .i64 j/\wr=w/\Hid (∀p (h:p<l.length),p<j->zac ns l[p])) (fun i _=>l.length-(intOf i).toNat)
 case atStart=>exact ⟨0,qK _,rfl,rfl,zqh (fun p _ hp=>absurd hp (jD _))⟩
 case round =>
  obtain ⟨j,hj,rfl,rfl,HJ⟩:=hrel
  by_cases hjl:j<l.length
  ·obtain ⟨b,off,rfl,hlt,hc⟩:=HV.out (by omega)
   have hjz:(0:Int)<=(j:Int):=by omega
   have hjn:(j:Int)<(l.length:Int):=by omega
   have c0:=hc j hjl
   obtain ⟨x,hx⟩:∃x,l[j]=x:=⟨_,rfl⟩
   have HX:=zqh hx
   rw[hx] at c0
   clear hc hx
   by_cases hx0:x<0
   ·have hxd0:decide (x<0)=true:=qD hx0
    go_wp2_with fail
    go_ret
    exact ⟨rfl,rfl⟩
   ·have hxd0:decide (x<0)=false:=qE hx0
    by_cases hx1:(ns.length:Int)<=x
    ·have hxd1:decide ((ns.length:Int)<=x)=true:=qD hx1
     go_wp2_with fail
     refine HL.out.mono ?_
     rintro e w1 ⟨rfl,rfl⟩
     go_wp2_with fail
     go_ret
     exact ⟨rfl,rfl⟩
    ·have hxd1:decide ((ns.length:Int)<=x)=false:=qE hx1
     have HIn:Hid (zac ns x):=zqh (by unfold zac;omega)
     go_wp2_with fail
     refine HL.out.mono ?_
     rintro e w1 ⟨rfl,rfl⟩
     go_wp2_with fail
     refine ⟨⟨j+1,by omega,by go_num,by trivial,zqh (fun p hp hpj=>?_)⟩,by simp[intOf];omega⟩
     by_cases e:p=j
     ·subst e;rw[HX.out];exact HIn.out
     ·exact HJ.out p hp (by omega)
  ·obtain rfl:j=l.length:=by omega
   obtain ⟨x,hx,hn⟩:=HI.out
   obtain ⟨p,hp,rfl⟩:=List.mem_iff_getElem.1 hx
   exact absurd (HJ.out p hp hp) hn
theorem ztG (S:ArenaMid AA) (x y:Int) {w:World} {a:Value} {ns:List Nd} {F:Nat->Prop} (h:AA w a ns F) (hx:¬zac ns x) :
  Calls Tryz.prog 123 #[a,.int .i64 x,.int .i64 y] w fun e w'=>e=.returned (.int .i64 (-1))/\Below w.heap.size w w':=by
 have HB:Hid (Below w.heap.size w (w.alloc (.cells #[.int .i64 x,.int .i64 y] 3))):=zqh (zqb)
 have HT:Hid (Calls Tryz.prog 124 #[a,.slice (some ⟨w.heap.size,0,none⟩) 2 2] (w.alloc (.cells #[.int .i64 x,.int .i64 y] 3)) fun e w'=>e=.returned (.bool false)/\w'=w.alloc (.cells #[.int .i64 x,.int .i64 y] 3)):=zqh (zfc S [x,y] (S.next h HB.out) (zgl _ _ _ _) (by simp) ⟨x,by simp,hx⟩)
 clear h hx
 go_enter Tryz.func123,Tryz.ntmps123
 go_wp2_with fail
 refine HT.out.mono ?_
 rintro e w1 ⟨rfl,rfl⟩
 go_wp2_with fail
 go_ret
 exact ⟨rfl,HB.out⟩
end
end

section
open Go.RowKit
section
variable {ns:List Nd} (hc:Canon ns) {k:Int} (hk:k=4\/k=5)
include hc hk
end
section
variable {AA:World->Value->List Nd->(Nat->Prop)->Prop}
end
end

section
open Go.RowKit Go.Maps
def ztH:Result Value->Bool
 | .ok (.tuple ⟨[_,.bool b]⟩) _=>b
 | _=>false
noncomputable def zj0 (w:World) (m:Nat) (x:Int):Bool:=ztH ((Instr.lookup 110 (.map (some m)) (.int .i64 x) true).run Tryz.prog w)
theorem zpw {w:World} {m n:Nat} {s:List Int} {x:Int} (h:zaT w m n s) (hx:I64 x):zj0 w m x=decide (x∈s):=by
 unfold zj0
 have e:=h.look hx
 rw[e]
 rfl
theorem zi0 {w:World} {m n N:Nat} {s:List Int} (h:zaT w m n s) (hN:N<=1000000):zdP N (zj0 w m)=zdP N (fun y=>decide (y∈s)):=by
 unfold zdP
 refine congrArg List.length (List.filter_congr (fun j hj=>?_))
 rw[zpw h (by have:=List.mem_range.1 hj;unfold I64;omega)]
section
variable {AA:World->Value->List Nd->(Nat->Prop)->Prop}
theorem zkK (S:ArenaMid AA) {w:World} {a v:Value} {ns:List Nd} {F:Nat->Prop} (k:Int) (hk:k=4\/k=5) (l:List Int) (h:AA w a ns F) (hv:zb1 w v l) (hl:l.length<=20000) (hI:∀x∈l,zac ns x) :
  Calls Tryz.prog 125 #[a,.int .i64 k,v] w fun e w'=>∃v' ms,e=.returned v'/\zas w' w.heap.size v' ms/\ms.Nodup/\(∀y,y∈ms↔∃x∈l,y∈mem ns k x)/\Below w.heap.size w w':=by
 have hmx:=S.max h
 have HA:=zqh h
 have HF:=zqh (S.fine h)
 have HI:=zqh hI
 have HK:=zqh hk
 have hB1:Below w.heap.size w (w.alloc (.map #[] 0)):=zqb
 have HM1:Hid (zaT (w.alloc (.map #[] 0)) w.heap.size 0 []):=zqh (zaT.made w)
 have HC:=zqh (ztE (hv.next hB1) (by omega))
 have HB1:=zqh hB1
 have hmm:=@run_makeMap Tryz.prog
 obtain ⟨i0,hi0,hi1,hi2,hi3⟩:=yZ zcJ
 clear h hv hI hk hB1
 go_enter Tryz.func125,Tryz.ntmps125
 go_wp2_with fail
 refine HC.out.mono ?_
 rintro e w1 ⟨v1,rfl,hr1,hb1⟩
 have HR1:Hid (zas w1 (w.heap.size+1) v1 l):=zqh (by rw[qV] at hr1;exact hr1)
 have HB2:=zqh (HB1.out.trans (hb1.mono (by simp)))
 have HM2:Hid (zaT w1 w.heap.size 0 []):=zqh (HM1.out.kept (hb1.block _ (by simp)))
 have HS1:Hid (w.heap.size+1<=w1.heap.size):=zqh (by have:=hb1.size;simpa using this)
 clear hr1 hb1 hmm
 go_wp2_with fail
 go_loopw [7,9] (fun v7 v9 wr=>∃(s T fd:List Int),Hid (zbO ns k l s T fd)/\Hid (zas wr (w.heap.size+1) v7 fd)/\Hid (zas wr (w.heap.size+1) v9 T)/\Hid (v7.ownBlock=none\/v7.ownBlock≠v9.ownBlock)/\Hid (zaT wr w.heap.size s.length s)/\Hid (Below w.heap.size w wr)/\Hid (w.heap.size+1<=wr.heap.size/\T.length<=20000+s.length/\fd.length<=s.length/\s.length<=ns.length)) (fun v7 v9 wr=>2*zdP ns.length (zj0 wr w.heap.size)+zte v9)
 case atStart=>exact ⟨[],l,[],zqh (zbO.start HI.out),zqh (zas.nil _ _),HR1,zqh (Or.inl rfl),HM2,HB2,zqh ⟨HS1.out,by simpa using hl,qL _,qK _⟩⟩
 case round =>
  clear HR1 HB2 HM2 HS1 HC HM1 HB1
  obtain ⟨s,T,fd,HV,HR7,HR9,HAp,HS,HB,HZ⟩:=hrel
  rcases List.eq_nil_or_concat T with rfl | ⟨T',x,rfl⟩
  ·obtain ⟨A9,c9,rfl⟩:=HR9.out.len
   have hb:(decide ((0:Int)<(([]:List Int).length:Int)))=false:=rfl
   go_wp2_with fail
   go_ret
   have hd:=zbO.done HF.out HK.out HV.out
   exact ⟨_,fd,rfl,HR7.out.base (kU _),hd.1,hd.2,HB.out⟩
  ·rw[List.concat_eq_append] at HV HR9 HZ
   obtain ⟨p,hp⟩:∃p,p=T'.length:=⟨_,rfl⟩
   have hlen:(T'++[x]).length=p+1:=by rw[qF,hp];rfl
   obtain ⟨g9,cap9,e9,hc9⟩:=HR9.out.form (by rw[hlen];omega)
   rw[hlen] at e9
   have hx9:=hc9 p (by rw[hlen];omega)
   rw[show (T'++[x])[p]'(by rw[hlen];omega)=x by simp[hp]] at hx9
   subst e9
   have HI9:=zqh (HR9.out.init hp.symm)
   have hxi:=HV.out.tin x (by simp)
   have HXi:=zqh hxi
   have hxI:I64 x:=by unfold zac at hxi;unfold I64;omega
   have hlk:=HS.out.look hxI
   have HP:=zqh hp
   have HpB:Hid (p+1<=20000+s.length/\s.length<=20000):=zqh (by have:=HZ.out;rw[hlen] at this;omega)
   have hpz:(0:Int)<(p:Int)+1:=by omega
   have hpn:(p:Int)<(p:Int)+1:=by omega
   have hpb:p+1<=1000000:=by have:=HpB.out;omega
   have HMu:Hid (∀wq sq,zaT wq w.heap.size sq.length sq->zdP ns.length (zj0 wq w.heap.size)=zdP ns.length (fun y=>decide (y∈sq))):=zqh (fun wq sq hq=>zi0 hq (by omega))
   have hcp:(p:Int)<=(cap9:Int):=by have:=HI9.out.cap;omega
   clear hc9 hxi hp hlen
   by_cases hs:x∈s
   ·rw[qD hs] at hlk
    have HXs:=zqh hs
    clear hs
    have hal:Below wr.heap.size wr (wr.alloc (.cells #[] 111)):=zqb
    have HS2:=zqh (HS.out.kept (hal.block _ HS.out.lt))
    have HAl:=zqh hal
    clear hal
    go_wp2_with fail
    refine ⟨⟨s,T',fd,zqh (HV.out.skip HXs.out),zqh (HR7.out.next HAl.out),zqh (HI9.out.next HAl.out),HAp,HS2,zqh (HB.out.trans (HAl.out.mono HB.out.size)),zqh ⟨by have:=HAl.out.size;have:=HZ.out;omega,by have:=HpB.out;have:=HP.out;omega,HZ.out.2.2⟩⟩,?_⟩
    rw[HMu.out _ _ HS2.out,HMu.out _ _ HS.out]
    show _+p<_+(p+1)
    omega
   ·rw[qE hs] at hlk
    have HXs:=zqh hs
    clear hs
    have hal:Below wr.heap.size wr (wr.alloc (.cells #[] 111)):=zqb
    obtain ⟨w3,hup,hs3,hg3⟩:=(HS.out.kept (hal.block _ HS.out.lt)).store hxI (by have:=HpB.out;omega)
    have HS3:=zqh hs3
    have HG3:Hid (wr.grownBy w3 (some w.heap.size)):=zqh ⟨hg3.os.trans hal.os,hg3.tape.trans hal.tape,hg3.output.trans hal.output,qH hal.size hg3.size,fun b hb hn=>(hg3.block b (qM hb hal.size) hn).trans (hal.block b hb)⟩
    have hB3:Below w.heap.size w w3:=⟨HG3.out.os.trans HB.out.os,HG3.out.tape.trans HB.out.tape,HG3.out.output.trans HB.out.output,qH HB.out.size HG3.out.size,fun b hb=>(HG3.out.block b (qM hb HB.out.size) (fun e=>by injection e with e;omega)).trans (HB.out.block b hb)⟩
    have HB3:=zqh hB3
    have HR73:Hid (zas w3 (w.heap.size+1) u7 fd):=zqh (HR7.out.grown HG3.out (fun c e q=>by injection e with e;have:=(HR7.out.lt q).1;omega))
    have HI93:Hid (zas w3 (w.heap.size+1) (.slice (some ⟨g9,0,none⟩) p cap9) T'):=zqh (HI9.out.grown HG3.out (fun c e q=>by injection e with e;have:=(HI9.out.lt q).1;omega))
    have HN:=zqh (S.nodeIn x (S.next HA.out hB3) hxI)
    have hdx:decide (0<=x/\x<(ns.length:Int))=true:=qD HXi.out
    clear hal hs3 hg3 hB3
    go_wp2_with fail
    refine HN.out.mono ?_
    rintro e w4 ⟨u,rfl,hu,hb4⟩
    have hu:=hu HXi.out
    rw[hdx]
    have HKx:Hid (kd ns x=u.kind/\ka ns x=u.a/\kb ns x=u.b):=zqh ⟨by unfold kd;rw[<-hu],by unfold ka;rw[<-hu],by unfold kb;rw[<-hu]⟩
    have HXb:=zqh (zbq w4 u)
    have hb5:=hb4.trans ((zaN w4 u).mono hb4.size)
    have HB5:=zqh (HB3.out.trans (hb5.mono HB3.out.size))
    have HZ5:Hid (w.heap.size+1<=(zaD w4 u).heap.size):=zqh (by have:=HZ.out;have:=HG3.out.size;have:=hb5.size;omega)
    have HR75:=zqh (HR73.out.next hb5)
    have HI95:=zqh (HI93.out.next hb5)
    have HS5:=zqh (HS3.out.kept (hb5.block _ HS3.out.lt))
    obtain ⟨c0,c1,c2,c3,c4,c5,c6,c7⟩:=Nd.cells HXb.out
    clear hu hb4 hb5 hdx hlk hup
    obtain ⟨w5,hw5⟩:∃w5,w5=zaD w4 u:=⟨_,rfl⟩
    have HW5:=zqh hw5
    have hsz:s.length+1=(x::s).length:=rfl
    have hPl:=HpB.out
    have hZ3:=HZ.out.2.2.1
    by_cases hk:u.kind=k
    ·have HKk:Hid (kd ns x=k):=zqh (HKx.out.1.trans hk)
     have hkb:(u.kind==k)=true:=by rw[hk];simp
     obtain ⟨w6,hw6⟩:∃w6,w6=(zaD w4 u).alloc (.cells #[.int .i64 u.a,.int .i64 u.b] 3):=⟨_,rfl⟩
     have hb6:Below (zaD w4 u).heap.size (zaD w4 u) w6:=by rw[hw6];exact zqb
     have HB6:=zqh (HB5.out.trans (hb6.mono HB5.out.size))
     have HZ6:Hid (w.heap.size+1<=w6.heap.size):=zqh (qH HZ5.out hb6.size)
     have HR76:=zqh (HR75.out.next hb6)
     have HRw:=zqh (HI95.out.next hb6)
     have HS6:=zqh (HS5.out.kept (hb6.block _ HS5.out.lt))
     have HW6:=zqh hw6
     rw[hw6] at HRw HZ6
     have hpT:T'.length<=1000000:=by rw[<-HP.out];omega
     clear hk hw5 hw6 hb6
     go_wp2_with (first
      |(with_reducible show wpList _ _ _ (⟨none,.store _ _ _,_,_,_,_⟩::_) _ _
        refine qN rfl 61 _ _ rfl w4.heap.size u.cs.toArray rfl rfl 61 Nd.zero.cs.toArray (At.new _ _ _) (by kernel_rfl) rfl (Nd.one u) ?_
        first | change wpList _ _ _ _ _ (zaD w4 u) | change Exit.then _ _ _ _ (zaD w4 u))
      |(at_builtin;go_loud (refine xI _ rfl _ _ _ rfl (w.heap.size+1) 3 i0 _ 1 8 Tryz.underlying80 hi0 hi1 hi2 hi3 rfl (by omega) (.slice (some ⟨g9,0,none⟩) p cap9) _ _ rfl HRw.out ⟨_,0,none⟩ 2 2 [.int .i64 u.a,.int .i64 u.b] rfl rfl ?c1 ?c2 ?c3 ?c4 ?c5 ?_);go_loud (case c1=>exact World.news_of_block (At.new _ _ _));go_loud (case c2=>simp[Value.oneCell']);go_loud (case c3=>unfold maxLen;omega);go_loud (case c4=>omega);go_loud (case c5=>exact HZ6.out);(intro v' w7 hown7 hg7 _ hat7))
      | fail)
     rw[<-HW6.out] at hg7 hat7
     have hr9:zas w7 (w.heap.size+1) v' (T'++[u.a,u.b]):=by
      unfold zas idL
      have:=hown7
      unfold idL at this
      rw[qF,jE]
      exact this
     have hap:u7.ownBlock=none\/u7.ownBlock≠v'.ownBlock:=by
      rcases HAp.out with q | q
      ·exact Or.inl q
      ·rcases hat7 with z | z
       ·rw[z];exact Or.inr q
       ·right
        rw[z]
        intro q2
        have:=(HR76.out.lt q2).2
        omega
     have hr7:zas w7 (w.heap.size+1) u7 fd:=HR76.out.grown hg7 (fun c e q=>by
      rcases HAp.out with z | z
      ·rw[z] at q;cases q
      ·exact z (by rw[q];exact e.symm))
     have hs7:zaT w7 w.heap.size (x::s).length (x::s):=HS6.out.kept (hg7.block _ HS6.out.lt (fun e=>by have:=(HI95.out.lt (c:=w.heap.size) e.symm).1;omega))
     have hb7:Below w.heap.size w w7:=⟨hg7.os.trans HB6.out.os,hg7.tape.trans HB6.out.tape,hg7.output.trans HB6.out.output,qH HB6.out.size hg7.size,fun b hb=>(hg7.block b (qM hb HB6.out.size) (fun e=>by have:=(HI95.out.lt (c:=b) e.symm).1;omega)).trans (HB6.out.block b hb)⟩
     have hv7:=HV.out.nodeStep HF.out HK.out HXs.out HKk.out
     rw[HKx.out.2.1,HKx.out.2.2] at hv7
     have hsl:(x::s).length<=ns.length:=zbd hv7.nd hv7.sin
     have hz7:w.heap.size+1<=w7.heap.size:=qH (by have:=HZ6.out;rw[<-HW6.out] at this;exact this) hg7.size
     obtain ⟨A9',c9',e9'⟩:=hr9.len
     refine ⟨⟨x::s,T'++[u.a,u.b],fd,zqh hv7,zqh hr7,zqh hr9,zqh hap,zqh hs7,zqh hb7,zqh ⟨hz7,by rw[qF];have:=HpB.out;have:=HP.out;simp;omega,by have:=HZ.out;simp;omega,hsl⟩⟩,?_⟩
     rw[HMu.out _ _ hs7,HMu.out _ _ HS.out]
     have hun:=zdv (n:=ns.length) HXi.out.1 HXi.out.2 HXs.out
     have hl9:zte v'=p+2:=by rw[e9'];show (T'++[u.a,u.b]).length=_;rw[qF,<-HP.out];rfl
     show _+zte v'<_+(p+1)
     omega
    ·have HKk:Hid (kd ns x≠k):=zqh (fun q=>hk (HKx.out.1.symm.trans q))
     have hkb:=(zab hk).1
     obtain ⟨w6,hw6⟩:∃w6,w6=(zaD w4 u).alloc (.cells #[.int .i64 x] 3):=⟨_,rfl⟩
     have hb6:Below (zaD w4 u).heap.size (zaD w4 u) w6:=by rw[hw6];exact zqb
     have HB6:=zqh (HB5.out.trans (hb6.mono HB5.out.size))
     have HZ6:Hid (w.heap.size+1<=w6.heap.size):=zqh (qH HZ5.out hb6.size)
     have HI96:=zqh (HI95.out.next hb6)
     have HRw:=zqh (HR75.out.next hb6)
     have HR76:=HRw
     have HS6:=zqh (HS5.out.kept (hb6.block _ HS5.out.lt))
     have HW6:=zqh hw6
     rw[hw6] at HRw HZ6
     have hfl:fd.length<=20000:=by have:=HpB.out;omega
     clear hk hw5 hw6 hb6
     go_wp2_with (first
      |(with_reducible show wpList _ _ _ (⟨none,.store _ _ _,_,_,_,_⟩::_) _ _
        refine qN rfl 61 _ _ rfl w4.heap.size u.cs.toArray rfl rfl 61 Nd.zero.cs.toArray (At.new _ _ _) (by kernel_rfl) rfl (Nd.one u) ?_
        first | change wpList _ _ _ _ _ (zaD w4 u) | change Exit.then _ _ _ _ (zaD w4 u))
      |(at_builtin
        refine xI _ rfl _ _ _ rfl (w.heap.size+1) 3 i0 _ 1 8 Tryz.underlying80 hi0 hi1 hi2 hi3 rfl (by omega) u7 _ _ rfl HRw.out ⟨_,0,none⟩ 1 1 [.int .i64 x] rfl rfl (cell_one_new _ _ _) ?c2 ?c3 ?c4 ?c5 ?_
        case c2=>simp[Value.oneCell']
        case c3=>unfold maxLen;omega
        case c4=>omega
        case c5=>exact HZ6.out
        intro v' w7 hown7 hg7 _ hat7)
      | fail)
     rw[<-HW6.out] at hg7 hat7
     have hr7:zas w7 (w.heap.size+1) v' (fd++[x]):=by
      unfold zas idL
      have:=hown7
      unfold idL at this
      simpa using this
     have hap:v'.ownBlock=none\/v'.ownBlock≠(Value.slice (some ⟨g9,0,none⟩) p cap9).ownBlock:=by
      rcases hat7 with z | z
      ·rw[z];exact HAp.out
      ·right
       rw[z]
       intro q2
       have:=(HI96.out.lt q2.symm).2
       omega
     have hr9:zas w7 (w.heap.size+1) (.slice (some ⟨g9,0,none⟩) p cap9) T':=HI96.out.grown hg7 (fun c e q=>by
      rcases HAp.out with z | z
      ·rw[z] at e;cases e
      ·exact z (by rw[e];exact q.symm))
     have hs7:zaT w7 w.heap.size (x::s).length (x::s):=HS6.out.kept (hg7.block _ HS6.out.lt (fun e=>by have:=(HR76.out.lt (c:=w.heap.size) e.symm).1;omega))
     have hb7:Below w.heap.size w w7:=⟨hg7.os.trans HB6.out.os,hg7.tape.trans HB6.out.tape,hg7.output.trans HB6.out.output,qH HB6.out.size hg7.size,fun b hb=>(hg7.block b (qM hb HB6.out.size) (fun e=>by have:=(HR76.out.lt (c:=b) e.symm).1;omega)).trans (HB6.out.block b hb)⟩
     have hv7:=HV.out.leafStep HXs.out HKk.out
     have hsl:(x::s).length<=ns.length:=zbd hv7.nd hv7.sin
     have hz7:w.heap.size+1<=w7.heap.size:=qH (by have:=HZ6.out;rw[<-HW6.out] at this;exact this) hg7.size
     refine ⟨⟨x::s,T',fd++[x],zqh hv7,zqh hr7,zqh hr9,zqh hap,zqh hs7,zqh hb7,zqh ⟨hz7,by have:=HpB.out;have:=HP.out;simp;omega,by have:=HZ.out;simp;omega,hsl⟩⟩,?_⟩
     rw[HMu.out _ _ hs7,HMu.out _ _ HS.out]
     have hun:=zdv (n:=ns.length) HXi.out.1 HXi.out.2 HXs.out
     show _+p<_+(p+1)
     omega
end
end
end Go.Proofs.YtdmodhnhldbpnaaGreat
