/- Joined: Union, NormOr, GnOr, Inter, NormAnd. -/
import Derived.Test.YtdmodhnhldbpnaaGreatProg
import Derived.Test.YtdmodhnhldbpnaaGreatMaa
import Derived.RegionTactic
import Derived.BigRegion
import Derived.LoopN
import Derived.Test.YtdmodhnhldbpnaaGreatMam
import Derived.Test.YtdmodhnhldbpnaaGreatAid
/- What set.Union and Not answer, of any sets. -/
set_option maxHeartbeats 16000000
set_option linter.unusedSimpArgs false
set_option linter.unusedVariables false
set_option maxRecDepth 100000
namespace Go.Proofs.YtdmodhnhldbpnaaGreat
section
open Go.RowKit
theorem zpx (s t:St) (hs:s.Ok) (ht:t.Ok) (w:World) :
  Calls Tryz.prog 127 #[.agg #[.int .u64 s.w0,.int .u64 s.w1,.int .u64 s.w2,.int .u64 s.w3],.agg #[.int .u64 t.w0,.int .u64 t.w1,.int .u64 t.w2,.int .u64 t.w3]] w fun e w' =>
   e=.returned (.agg #[.int .u64 (s.or t).w0,.int .u64 (s.or t).w1,.int .u64 (s.or t).w2,.int .u64 (s.or t).w3])/\Below w.heap.size w w':=by
 have b0:=zfx s.w0 t.w0 hs.o0 ht.o0
 have b1:=zfx s.w1 t.w1 hs.o1 ht.o1
 have b2:=zfx s.w2 t.w2 hs.o2 ht.o2
 have b3:=zfx s.w3 t.w3 hs.o3 ht.o3
 go_enter Tryz.func127,Tryz.ntmps127
 go_wp2
 refine wp_loop_rounds 5 ?_
 iterate 4
  rw[kT]
  go_wp2
  go_region
  go_wp2
 rw[kT]
 go_wp2
 refine yD (v:=.agg #[.int .u64 (s.or t).w0,.int .u64 (s.or t).w1,.int .u64 (s.or t).w2,.int .u64 (s.or t).w3]) (by simp[results,Tryz.results127,go_sem,St.or]) rfl ⟨rfl,?_⟩
 repeat (first | exact qT _ _ | refine yF ?_ | refine Below.alloc ?_ (by simp;try omega) _)
theorem ztI (s:St) (hs:s.Ok) (w:World) :
  Calls Tryz.prog 129 #[.agg #[.int .u64 s.w0,.int .u64 s.w1,.int .u64 s.w2,.int .u64 s.w3]] w fun e w' =>
   e=.returned (.agg #[.int .u64 s.not.w0,.int .u64 s.not.w1,.int .u64 s.not.w2,.int .u64 s.not.w3])/\Below w.heap.size w w':=by
 have b0:=zgc s.w0 hs.o0
 have b1:=zgc s.w1 hs.o1
 have b2:=zgc s.w2 hs.o2
 have b3:=zgc s.w3 hs.o3
 go_enter Tryz.func129,Tryz.ntmps129
 go_wp2
 refine wp_loop_rounds 5 ?_
 iterate 4
  rw[kT]
  go_wp2
 rw[kT]
 go_wp2
 refine yD (v:=.agg #[.int .u64 s.not.w0,.int .u64 s.not.w1,.int .u64 s.not.w2,.int .u64 s.not.w3]) (by simp[results,Tryz.results129,go_sem,St.not]) rfl ⟨rfl,?_⟩
 repeat (first | exact qT _ _ | refine yF ?_ | refine Below.alloc ?_ (by simp;try omega) _)
end

section
open Go.RowKit
def zgK (s:St):Array Value:=#[.int .u64 s.w0,.int .u64 s.w1,.int .u64 s.w2,.int .u64 s.w3]
theorem zif (s:St):(zgK s).all (fun x=>x.oneCell')=true:=by simp[zgK,Value.oneCell']
theorem zaP.nil {ns:List Nd}:zaP ns 4 [] zbn:=by
 refine ⟨⟨by unfold U64;exact xV _,by unfold U64;exact xV _,by unfold U64;exact xV _,by unfold U64;exact xV _⟩,fun b hb=>?_⟩
 have h0:zbn.has b=false:=by
  unfold zbn St.has St.word
  split
  ·simp
  ·split
   ·simp
   ·split<;>simp
 rw[h0]
 constructor
 ·intro q;cases q
 ·rintro ⟨y,hy,_⟩;cases hy
theorem zaP.skip {ns:List Nd} {k y:Int} {ms:List Int} {U:St} (h:zaP ns k ms U) (hy:kd ns y≠2):zaP ns k (ms++[y]) U:=by
 refine ⟨h.1,fun b hb=>?_⟩
 rw[h.2 b hb]
 constructor
 ·rintro ⟨z,hz,q⟩;exact ⟨z,jH _ hz,q⟩
 ·rintro ⟨z,hz,q⟩
  rcases List.mem_append.1 hz with hz | hz
  ·exact ⟨z,hz,q⟩
  ·rw[List.mem_singleton.1 hz] at q;exact absurd q.1 hy
theorem zaP.or {ns:List Nd} {y:Int} {ms:List Int} {U:St} (h:zaP ns 4 ms U) (hy:kd ns y=2) (ho:(zaQ ns y.toNat).set.Ok):zaP ns 4 (ms++[y]) (U.or (zaQ ns y.toNat).set):=by
 refine ⟨St.or_ok h.1 ho,fun b hb=>?_⟩
 have e:(decide ((4:Int)=5))=false:=rfl
 have:=h.2 b hb
 rw[e,Bool.bne_false] at this
 rw[e,Bool.bne_false,zth,yS,this]
 constructor
 ·rintro (⟨z,hz,q1,q2⟩ | q)
  ·exact ⟨z,jH _ hz,q1,q2⟩
  ·exact ⟨y,yJ _ (by simp),hy,by rw[Bool.bne_false];exact q⟩
 ·rintro ⟨z,hz,q1,q2⟩
  rcases List.mem_append.1 hz with hz | hz
  ·exact Or.inl ⟨z,hz,q1,q2⟩
  ·rw[List.mem_singleton.1 hz,Bool.bne_false] at q2;exact Or.inr q2
theorem zgL {p:Int->Bool} {l:List Int} {y:Int} (h:p y=true):(l++[y]).filter p=l.filter p++[y]:=by rw[kY];simp[h]
theorem zen {p:Int->Bool} {l:List Int} {y:Int} (h:p y=false):(l++[y]).filter p=l.filter p:=by rw[kY];simp[h]
section
variable {AA:World->Value->List Nd->(Nat->Prop)->Prop}
structure OrI (w:World) (ns:List Nd) (k:Int) (ms:List Int) (u0:Nat) (j:Nat) (v6 v17:Value) (U:St) (wr:World):Prop where
 row:zas wr (w.heap.size+1) v6 ((ms.take j).filter (za2 ns k))
 src:zas wr (w.heap.size+1) v17 ms
 apart:v6.ownBlock=none\/v6.ownBlock≠v17.ownBlock
 set:At wr u0 46 (zgK U)
 bytes:zaP ns k (ms.take j) U
 top:∀y∈ms.take j,zjO ns k y=false
 below:Below w.heap.size w wr
 size:w.heap.size+1<=wr.heap.size
theorem OrI.next {w:World} {ns:List Nd} {k:Int} {ms:List Int} {u0 j:Nat} {v6 v17:Value} {U:St} {wr w':World} (h:OrI w ns k ms u0 j v6 v17 U wr) (hb:Below wr.heap.size wr w'):OrI w ns k ms u0 j v6 v17 U w' :=
 ⟨h.row.next hb,h.src.next hb,h.apart,(hb.block _ h.set.lt).trans h.set,h.bytes,h.top,h.below.trans (hb.mono h.below.size),qH h.size hb.size⟩
theorem zbm {ms:List Int} {j:Nat} (h:j<ms.length):ms.take (j+1)=ms.take j++[ms[j]]:=by rw[kE,qI h];rfl
theorem OrI.bytesStep {w:World} {ns:List Nd} {k:Int} {ms:List Int} {j:Nat} {v6 v17:Value} {U U':St} {wr:World} (h:OrI w ns k ms w.heap.size j v6 v17 U wr) (hj:j<ms.length) (hk:k=4\/k=5) (h2:kd ns (ms[j])=2) (hU:zaP ns k (ms.take j++[ms[j]]) U'):OrI w ns k ms w.heap.size (j+1) v6 v17 U' (wr.setRow w.heap.size (zgK U')):=by
 have hno:za2 ns k (ms[j])=false:=by unfold za2;rw[qD h2];rfl
 have hot:∀b,b≠w.heap.size->(wr.setRow w.heap.size (zgK U')).heap[b]?=wr.heap[b]?:=fun b hb=>setRow_other _ _ _ _ hb
 have hgb:wr.grownBy (wr.setRow w.heap.size (zgK U')) (some w.heap.size):=⟨rfl,rfl,rfl,by rw[setRow_size];exact qL _,fun b _ hn=>hot b (fun e=>hn (by rw[e]))⟩
 refine ⟨?_,h.src.grown hgb (fun c e q=>by injection e with e;have:=(h.src.lt q).1;omega),h.apart,At.row h.set _,by rw[zbm hj];exact hU,fun y hy=>?_,?_,by rw[setRow_size];exact h.size⟩
 ·rw[zbm hj,zen hno]
  exact h.row.grown hgb (fun c e q=>by injection e with e;have:=(h.row.lt q).1;omega)
 ·rw[zbm hj] at hy
  rcases List.mem_append.1 hy with hy | hy
  ·exact h.top y hy
  ·rw[List.mem_singleton.1 hy]
   cases q:zjO ns k (ms[j]) with
   | false=>rfl
   | true=>have:=zmP q;omega
 ·exact h.below.grown hgb h.below.size (fun c e=>by injection e with e;omega)
theorem OrI.skipStep {w:World} {ns:List Nd} {k:Int} {ms:List Int} {u0 j:Nat} {v6 v17:Value} {U:St} {wr:World} (h:OrI w ns k ms u0 j v6 v17 U wr) (hj:j<ms.length) (h2:kd ns (ms[j])≠2) (hu:zev ns k (ms[j])=true) (ht:zjO ns k (ms[j])=false):OrI w ns k ms u0 (j+1) v6 v17 U wr:=by
 have hno:za2 ns k (ms[j])=false:=by unfold za2;rw[hu];simp
 refine ⟨by rw[zbm hj,zen hno];exact h.row,h.src,h.apart,h.set,by rw[zbm hj];exact h.bytes.skip h2,fun y hy=>?_,h.below,h.size⟩
 rw[zbm hj] at hy
 rcases List.mem_append.1 hy with hy | hy
 ·exact h.top y hy
 ·rw[List.mem_singleton.1 hy];exact ht
theorem OrI.otherStep {w:World} {ns:List Nd} {k:Int} {ms:List Int} {j:Nat} {v6 v6' v17:Value} {U:St} {wr w':World} (h:OrI w ns k ms w.heap.size j v6 v17 U wr) (hj:j<ms.length) (h2:kd ns (ms[j])≠2) (hu:zev ns k (ms[j])=false) (ht:zjO ns k (ms[j])=false)
  (hr:w'.ownsRow (w.heap.size+1) 3 1 v6' (((ms.take j).filter (za2 ns k)).length+1) (idL ((ms.take j).filter (za2 ns k))++[.int .i64 (ms[j])])) (hg:wr.grownBy w' v6.ownBlock) (hat:v6'.ownBlock=v6.ownBlock\/v6'.ownBlock=some wr.heap.size):OrI w ns k ms w.heap.size (j+1) v6' v17 U w':=by
 have hyes:za2 ns k (ms[j])=true:=by unfold za2;rw[qE h2,hu];rfl
 refine ⟨?_,h.src.grown hg (fun c e q=>?_),?_,(hg.block _ h.set.lt (fun e=>by have:=(h.row.lt e.symm).1;omega)).trans h.set,by rw[zbm hj];exact h.bytes.skip h2,fun y hy=>?_,h.below.grown hg h.below.size (fun c e=>by have:=(h.row.lt e).1;omega),qH h.size hg.size⟩
 ·rw[zbm hj,zgL hyes]
  unfold zas
  rw[qF]
  unfold idL
  rw[jE]
  exact hr
 ·rcases h.apart with z | z
  ·rw[z] at e;cases e
  ·exact z (by rw[e,q])
 ·rcases hat with z | z
  ·rw[z];exact h.apart
  ·right
   rw[z]
   intro q
   have:=(h.src.lt q.symm).2
   omega
 ·rw[zbm hj] at hy
  rcases List.mem_append.1 hy with hy | hy
  ·exact h.top y hy
  ·rw[List.mem_singleton.1 hy];exact ht
end
end

section
open Go.RowKit
section
variable {AA:World->Value->List Nd->(Nat->Prop)->Prop}
theorem zvy (S:zaI AA) {w:World} {a v:Value} {ns:List Nd} {F:Nat->Prop} (l:List Int) (h:AA w a ns F) (hv:zb1 w v l) (hI:∀x∈l,zac ns x) (hll:l.length<=20000) :
  Calls Tryz.prog 87 #[a,v] w (Got AA w a ns F fun ms r=>zda ns 4 l ms r):=by
 have hmx:=S.max h
 have HTh:=zqh (zkD S.toArenaMid l h hv hll hI)
 have HA:=zqh h
 have HFi:=zqh (S.fine h)
 have HI:=zqh hI
 have HMx:=zqh hmx
 have hb1:Below w.heap.size w (w.alloc (.cells (zgK zbn) 46)):=zqb
 have HMe:Hid (Calls Tryz.prog 125 #[a,.int .i64 4,v] (w.alloc (.cells #[.int .u64 0,.int .u64 0,.int .u64 0,.int .u64 0] 46)) fun e w'=>∃v' ms,e=.returned v'/\zas w' (w.heap.size+1) v' ms/\ms.Nodup/\(∀y,y∈ms↔∃x∈l,y∈mem ns 4 x)/\Below (w.heap.size+1) (w.alloc (.cells (zgK zbn) 46)) w'):=zqh (by
  have:=zkK S.toArenaMid 4 (Or.inl rfl) l (S.next h hb1) (hv.next hb1) hll hI
  rw[qV] at this
  exact this)
 have HB1:=zqh hb1
 obtain ⟨gp,rfl⟩:=S.ptr h
 obtain ⟨i0,hi0,hi1,hi2,hi3⟩:=yZ zcJ
 clear h hv hI hb1
 go_enter Tryz.func87,Tryz.ntmps87
 go_wp2_with fail
 refine HTh.out.mono ?_
 rintro e w1 ⟨rfl,hw1⟩
 obtain rfl:w=w1:=hw1.symm
 go_wp2_with fail
 refine HMe.out.mono ?_
 rintro e w2 ⟨v2,ms,rfl,hr2,hnd,hiff,hb2⟩
 have HCol:Hid (ziY ns 4 l ms):=zqh ⟨HI.out,hnd,hiff⟩
 have hB2:Below w.heap.size w w2:=HB1.out.trans (hb2.mono (kU _))
 have hS2:w.heap.size+1<=w2.heap.size:=by have:=hb2.size;simpa using this
 have HO2:Hid (OrI w ns 4 ms w.heap.size 0 (.slice none 0 0) v2 zbn w2):=zqh ⟨zas.nil _ _,hr2,Or.inl rfl,(hb2.block _ (xW _)).trans (At.new w _ _),zaP.nil,(by intro y hy;cases hy),hB2,hS2⟩
 obtain ⟨A2,c2,rfl⟩:=hr2.len
 have hmsb:ms.length<=20000:=by have:=ziZ HCol.out.nd (fun z hz=>(HCol.out.innF HFi.out (Or.inl rfl) hz).1);have:=HMx.out;omega
 clear hr2 hnd hiff hb2 hB2 hS2 HTh HMe
 go_wp2_with fail
 go_loopw [6,19] (fun v6 x wr=>∃(j:Nat) (U:St),j<=ms.length/\x=.int .i64 j/\Hid (OrI w ns 4 ms w.heap.size j v6 (.slice A2 ms.length c2) U wr)) (fun _ x _=>ms.length-(intOf x).toNat)
 case atStart=>exact ⟨0,zbn,qK _,rfl,HO2⟩
 case round =>
  clear HO2 HB1
  obtain ⟨j,U,hj,rfl,HO⟩:=hrel
  by_cases hjl:j<ms.length
  ·have hjz:(0:Int)<=(j:Int):=by omega
   have hjn:(j:Int)<(ms.length:Int):=by omega
   obtain ⟨g2,cap2,e2,hcs⟩:=HO.out.src.form (by omega)
   injection e2 with e2 e4 e3
   clear e4
   subst e2 e3
   have cy:=hcs j hjl
   obtain ⟨y,hy⟩:∃y,y=ms[j]:=⟨_,rfl⟩
   rw[<-hy] at cy
   have HYe:=zqh hy
   have hym:y∈ms:=by rw[hy];exact qG _
   have HYm:=zqh hym
   have hyi:=(HCol.out.innF HFi.out (Or.inl rfl) hym).1
   have HYi:=zqh hyi
   have hyI:I64 y:=by unfold zac at hyi;unfold I64;omega
   have HN:=zqh (S.nodeIn y (S.next HA.out HO.out.below) hyI)
   have hdx:decide (0<=y/\y<(ns.length:Int))=true:=qD hyi
   clear hcs hy hym hyi
   go_wp2_with fail
   refine HN.out.mono ?_
   rintro e w4 ⟨u,rfl,hu,hb4⟩
   have hu:=hu HYi.out
   rw[hdx]
   have HU:=zqh hu
   have HKx:Hid (kd ns y=u.kind):=zqh (by unfold kd;rw[<-hu])
   have HXb:=zqh (zbq w4 u)
   have hb5:=hb4.trans ((zaN w4 u).mono hb4.size)
   have HO5:=zqh (HO.out.next hb5)
   have HIA:=zqh (zqP S.toArenaMid y u (S.next HA.out HO5.out.below) HYi.out hu)
   have hcl:u.cs.length=8:=rfl
   clear hu hb4 hb5 hdx cy
   go_wp2_with (first
    |(with_reducible show wpList _ _ _ (⟨none,.store 61 _ _,_,_,_,_⟩::_) _ _
      refine qN rfl 61 _ _ rfl w4.heap.size u.cs.toArray rfl rfl 61 Nd.zero.cs.toArray (At.new _ _ _) (by kernel_rfl) rfl (Nd.one u) ?_
      first | change wpList _ _ _ _ _ (zaD w4 u) | change Exit.then _ _ _ _ (zaD w4 u))
    |(with_reducible show wpList _ _ _ (⟨_,.load 61 (.tmp 9),_,_,_,_⟩::_) _ _
      refine zaa (by rfl) 61 _ rfl w4.heap.size rfl 61 u.cs.toArray (0,0) _ HXb.out Tryz.underlying61 rfl (by rw[qO,Nd.cs_length];kernel_rfl) ?_)
    | fail)
   refine HIA.out.mono ?_
   rintro e w5 ⟨rfl,hb5⟩
   have HO6:=zqh (HO5.out.next hb5)
   have HX6:Hid (At w5 w4.heap.size 61 u.cs.toArray):=zqh ((hb5.block _ HXb.out.lt).trans HXb.out)
   clear hb5
   by_cases hal:zfw ns y=true
   ·have HAl:=zqh hal
    rw[hal]
    clear hal
    go_wp2_with fail
    go_ret
    exact Got.stay S.toArenaMid HA.out HO6.out.below HYi.out (ztF HFi.out HCol.out HYm.out HAl.out)
   ·have HAl:Hid (zjO ns 4 y=false):=zqh (by show zfw ns y=false;cases q:zfw ns y with | false=>rfl | true=>exact absurd q hal)
    have hal':zfw ns y=false:=HAl.out
    rw[hal']
    clear hal hal'
    obtain ⟨c0,c1,c2,c3,c4,c5,c6,c7⟩:=Nd.cells HX6.out
    by_cases hk2:u.kind=2
    ·have HK2:Hid (kd ns y=2):=zqh (HKx.out.trans hk2)
     rw[hk2] at c0
     have hset:=HO6.out.set
     have s0:w5.cell? ⟨w.heap.size,0,none⟩=some (.int .u64 U.w0):=hset.cell 0
     have s1:w5.cell? ⟨w.heap.size,1,none⟩=some (.int .u64 U.w1):=hset.cell 1
     have s2:w5.cell? ⟨w.heap.size,2,none⟩=some (.int .u64 U.w2):=hset.cell 2
     have s3:w5.cell? ⟨w.heap.size,3,none⟩=some (.int .u64 U.w3):=hset.cell 3
     have hsok:u.set.Ok:=by have:=(zh2 HFi.out HYi.out).2;rw[<-HU.out] at this;exact this.2.1
     have HUn:=zqh (zpx U u.set HO6.out.bytes.1 hsok w5)
     have HBy:Hid (zaP ns 4 (ms.take j++[y]) (U.or u.set)):=zqh (by
      have:=HO6.out.bytes.or HK2.out (by rw[<-HU.out];exact hsok)
      rw[<-HU.out] at this;exact this)
     clear hk2 hset hsok
     go_wp2_with fail
     refine HUn.out.mono ?_
     rintro e w6 ⟨rfl,hb6⟩
     have HO7:=zqh (HO6.out.next hb6)
     have hset:=HO7.out.set
     clear hb6 s0 s1 s2 s3
     go_wp2_with (first
      |(with_reducible show wpList _ _ _ (⟨none,.store 46 _ _,_,_,_,_⟩::_) _ _
        refine qN rfl 46 _ _ rfl w.heap.size (zgK (U.or u.set)) rfl rfl 46 (zgK U) hset (by kernel_rfl) rfl (zif _) ?_
        obtain ⟨w7,hw7⟩:∃w7,w7=w6.setRow w.heap.size (zgK (U.or u.set)):=⟨_,rfl⟩
        rw[<-hw7])
      | fail)
     go_roundw
     case rel=>exact ⟨j+1,U.or u.set,by omega,by go_num,zqh (by exact HO7.out.bytesStep hjl (Or.inl rfl) (by rw[<-HYe.out];exact HK2.out) (by rw[<-HYe.out];exact HBy.out))⟩
     case measure=>simp[intOf];omega
    ·have HK2:Hid (kd ns y≠2):=zqh (fun q=>hk2 (HKx.out.symm.trans q))
     have hk2b:=(zab hk2).1
     clear hk2
     by_cases hk0:u.kind=0
     ·have HK0:Hid (zev ns 4 y=true):=zqh (by show zmO ns y=true;exact qD (HKx.out.trans hk0))
      rw[hk0] at c0 hk2b
      clear hk0
      go_wp2_with fail
      go_roundw
      case rel=>exact ⟨j+1,U,by omega,by go_num,zqh (by exact HO6.out.skipStep hjl (by rw[<-HYe.out];exact HK2.out) (by rw[<-HYe.out];exact HK0.out) (by rw[<-HYe.out];exact HAl.out))⟩
      case measure=>simp[intOf];omega
     ·have HK0:Hid (zev ns 4 y=false):=zqh (by show zmO ns y=false;exact qE (fun q=>hk0 (HKx.out.symm.trans q)))
      have hk0b:=(zab hk0).2
      have hk0c:=(zab hk0).1
      have hal2:Below w5.heap.size w5 (w5.alloc (.cells #[.int .i64 y] 3)):=zqb
      have HO7:=zqh (HO6.out.next hal2)
      have HRw:=zqh HO7.out.row
      have hZ7:=HO7.out.size
      have hfl:((ms.take j).filter (za2 ns 4)).length<=20000:=by
       have:=xA (za2 ns 4) (ms.take j)
       rw[jR] at this
       omega
      clear hk0 hal2
      go_wp2_with (first
       |(at_builtin
         refine xI _ rfl _ _ _ rfl (w.heap.size+1) 3 i0 _ 1 8 Tryz.underlying80 hi0 hi1 hi2 hi3 rfl (by omega) u6 _ _ rfl HRw.out ⟨_,0,none⟩ 1 1 [.int .i64 y] rfl rfl (cell_one_new _ _ _) ?c2 ?c3 ?c4 ?c5 ?_
         case c2=>simp[Value.oneCell']
         case c3=>unfold maxLen;omega
         case c4=>omega
         case c5=>exact hZ7
         intro v' w8 hown8 hg8 _ hat8)
       | fail)
      go_roundw
      case rel=>exact ⟨j+1,U,by omega,by go_num,zqh (by exact HO7.out.otherStep hjl (by rw[<-HYe.out];exact HK2.out) (by rw[<-HYe.out];exact HK0.out) (by rw[<-HYe.out];exact HAl.out) (by rw[<-HYe.out];exact hown8) hg8 hat8)⟩
      case measure=>simp[intOf];omega
  ·obtain rfl:j=ms.length:=by omega
   obtain ⟨hrow,hsrc,hap,hset,hby,htop,hbel,hsz⟩:=HO.out
   rw[qQ] at hrow hby htop
   obtain ⟨ot,hot⟩:∃ot,ot=ms.filter (za2 ns 4):=⟨_,rfl⟩
   rw[<-hot] at hrow
   have HOt:=zqh hot
   have HRow:=zqh hrow
   have HBy:=zqh hby
   have HTop:=zqh htop
   have HBel:=zqh hbel
   have HSz:=zqh hsz
   have hotl:ot.length<=20000:=by
    have:=xA (za2 ns 4) ms
    rw[<-hot] at this
    omega
   have s0:wr.cell? ⟨w.heap.size,0,none⟩=some (.int .u64 U.w0):=hset.cell 0
   have s1:wr.cell? ⟨w.heap.size,1,none⟩=some (.int .u64 U.w1):=hset.cell 1
   have s2:wr.cell? ⟨w.heap.size,2,none⟩=some (.int .u64 U.w2):=hset.cell 2
   have s3:wr.cell? ⟨w.heap.size,3,none⟩=some (.int .u64 U.w3):=hset.cell 3
   have HSet:=zqh hset
   have HCt:=zqh (zh9 U hby.1 wr)
   obtain ⟨A6,c6,e6⟩:=hrow.len
   subst e6
   clear hrow hsrc hap hset hby htop hbel hsz hot HO
   go_wp2_with fail
   refine HCt.out.mono ?_
   rintro e w5 ⟨rfl,hb5⟩
   have HB5:=zqh (HBel.out.trans (hb5.mono HBel.out.size))
   have HRow5:=zqh (HRow.out.next hb5)
   have HSz5:Hid (w.heap.size+1<=w5.heap.size):=zqh (qH HSz.out hb5.size)
   have hset5:At w5 w.heap.size 46 (zgK U):=(hb5.block _ HSet.out.lt).trans HSet.out
   have HA5:=zqh (S.next HA.out HB5.out)
   obtain ⟨n,hn⟩:∃n,n=U.list.length:=⟨_,rfl⟩
   rw[<-hn]
   have HNn:=zqh hn
   clear s0 s1 s2 s3 hb5 hn
   by_cases hn0:n=0
   ·have HEm:Hid (∀b,b<256->U.has b=false):=zqh (ze8.1 (by rw[<-HNn.out];exact hn0))
    subst hn0
    by_cases ho0:ot.length=0
    ·have HOe:Hid (ms.filter (za2 ns 4)=[]):=zqh (by rw[<-HOt.out];exact List.length_eq_zero_iff.1 ho0)
     have HP:=zqh (znl S.toArenaAny HA5.out)
     have ho0':((ot.length:Int)==0)=true:=by rw[ho0];rfl
     rw[ho0]
     clear ho0 ho0'
     go_wp2_with fail
     refine HP.out.mono ?_
     rintro e w6 gr
     obtain ⟨r,_,_,rfl,_⟩:=id gr
     have HG:Hid (Got AA w (.pointer (some ⟨gp,0,none⟩)) ns F (fun ms r=>zda ns 4 l ms r) (.returned (.int .i64 r)) w6):=zqh ((gr.from HB5.out).mono (fun more r q hfm hi=>zrV HFi.out hfm HCol.out HBy.out HEm.out HOe.out hi q) S.toArenaMid)
     clear gr
     go_wp2_with fail
     go_ret
     exact HG.out
    ·have HNs:Hid (0<ns.length):=zqh (by
      obtain ⟨z,hm⟩:∃z,z∈ot:=⟨ot[0]'(by omega),qG _⟩
      rw[HOt.out] at hm
      have:=(HCol.out.innF HFi.out (Or.inl rfl) (List.mem_filter.1 hm).1).1
      unfold zac at this;omega)
     have hob:((ot.length:Int)==0)=false:=(zab (by omega)).1
     have HJ:=zqh (zib S 4 (Or.inl rfl) ot HA5.out HRow5.out (by omega) (fun b e q=>by have:=(HRow5.out.lt e).1;have:=S.low HA.out b q;omega) (fun x hx=>Or.inl (by rw[HOt.out] at hx;exact (HCol.out.innF HFi.out (Or.inl rfl) (List.mem_filter.1 hx).1).1)) HNs.out (by omega))
     clear ho0
     go_wp2_with fail
     refine HJ.out.mono ?_
     rintro e w6 jp
     obtain ⟨r,_,_,rfl,_⟩:=id jp
     have HG:Hid (Got AA w (.pointer (some ⟨gp,0,none⟩)) ns F (fun ms r=>zda ns 4 l ms r) (.returned (.int .i64 r)) w6):=zqh (zea S.toArenaMid (m1:=[]) (L:=ot) (fun b q=>Or.inl q) (OffF.of HB5.out) (fun b e=>by have:=(HRow5.out.lt e).1;omega) (by rw[jA];exact jp) (fun more r hfm hp _=>zrT HFi.out (m1:=[]) HCol.out HBy.out HEm.out (by rw[<-HOt.out];exact hp)))
     clear jp
     go_wp2_with fail
     go_ret
     exact HG.out
   ·have HNe:Hid (U.list.length≠0):=zqh (by rw[<-HNn.out];exact hn0)
    have HMe2:Hid (∃y,y∈ms):=zqh (Classical.byContradiction fun hno=>HNe.out (ze8.2 (fun b hb256=>by
     cases e:U.has b with
     | false=>rfl
     | true =>
      have:=HBy.out.2 b hb256
      rw[show decide ((4:Int)=5)=false from rfl,Bool.bne_false] at this
      obtain ⟨y,hy,_⟩:=this.1 e
      exact absurd ⟨y,hy⟩ hno)))
    have hnz:(0:Int)<(n:Int):=by omega
    have hnz2:decide ((0:Int)<(n:Int))=true:=qD hnz
    have s0:w5.cell? ⟨w.heap.size,0,none⟩=some (.int .u64 U.w0):=hset5.cell 0
    have s1:w5.cell? ⟨w.heap.size,1,none⟩=some (.int .u64 U.w1):=hset5.cell 1
    have s2:w5.cell? ⟨w.heap.size,2,none⟩=some (.int .u64 U.w2):=hset5.cell 2
    have s3:w5.cell? ⟨w.heap.size,3,none⟩=some (.int .u64 U.w3):=hset5.cell 3
    have HP:=zqh (znq S.toArenaAny U HA5.out HBy.out.1)
    clear hn0 hset5
    go_wp2_with fail
    refine HP.out.mono ?_
    rintro e w6 ⟨b,m1,F1,rfl,g1,g2,g3,g4⟩
    have HNb:Hid (b=-1\/(zac (ns++m1) b/\zaQ (ns++m1) b.toNat=⟨2,U,0,0,false⟩)):=zqh (g4.imp id (fun z=>⟨z.1,by
     rcases z.2 with ⟨q,_⟩ | ⟨_,q⟩
     ·exact absurd q HNe.out
     ·exact q⟩))
    have HF1:=zqh (S.fine g1)
    have hot6:∀c,F c->(Value.slice A6 ot.length c6).ownBlock≠some c:=fun c q e=>by have:=(HRow5.out.lt e).1;have:=S.low HA.out c q;omega
    have hr6:=HRow5.out.off g3 hot6
    have hal:Below w6.heap.size w6 (w6.alloc (.cells #[.int .i64 b] 3)):=zqb
    have HRw:=zqh (hr6.next hal)
    have HAl:=zqh hal
    have HG1:=zqh g1
    have HG2:=zqh g2
    have HO6:Hid (OffF F w w6):=zqh ((OffF.of HB5.out).off g3 (fun b q=>Or.inl q))
    have HS6:Hid (w5.heap.size<=w6.heap.size):=zqh g3.size
    have hz7:w.heap.size+1<=(w6.alloc (.cells #[.int .i64 b] 3)).heap.size:=by rw[qV];have:=HSz5.out;have:=HS6.out;omega
    clear g1 g2 g3 g4 hot6 hr6 hal s0 s1 s2 s3
    go_wp2_with (first
     |(at_builtin
       refine xI _ rfl _ _ _ rfl (w.heap.size+1) 3 i0 _ 1 8 Tryz.underlying80 hi0 hi1 hi2 hi3 rfl (by omega) (.slice A6 ot.length c6) _ _ rfl HRw.out ⟨_,0,none⟩ 1 1 [.int .i64 b] rfl rfl (cell_one_new _ _ _) ?c2 ?c3 ?c4 ?c5 ?_
       case c2=>simp[Value.oneCell']
       case c3=>unfold maxLen;omega
       case c4=>omega
       case c5=>exact hz7
       intro v8 w8 hown8 hg8 _ hat8
       have hr8:zas w8 (w.heap.size+1) v8 (ot++[b]):=by
        unfold zas
        rw[qF]
        unfold idL
        rw[jE]
        exact hown8
       obtain ⟨A8,c8,e8⟩:=hr8.len
       rw[qF,yE] at e8
       have HR8:=zqh hr8
       have HG8:=zqh hg8
       have HAt8:=zqh hat8
       clear hown8 hg8 hat8 hr8
       subst e8)
     | fail)
    have hfl:∀c,F1 c->(Value.slice A6 ot.length c6).ownBlock≠some c:=fun c q e=>by
     rcases HG2.out c q with z | z
     ·have:=(HRow5.out.lt e).1;have:=S.low HA.out c z;omega
     ·have:=(HRow5.out.lt e).2;omega
    have hA8:AA w8 (.pointer (some ⟨gp,0,none⟩)) (ns++m1) F1:=S.keep (S.next HG1.out HAl.out) (fun c q=>HG8.out.block c (by have:=S.low HG1.out c q;have:=HAl.out.size;omega) (fun e=>hfl c q e.symm))
    have hO8:OffF F w w8:=(HO6.out.then HAl.out).grown HG8.out (fun c e=>Or.inr (by have:=(HRow5.out.lt e).1;omega))
    have hnF:∀c,(Value.slice A8 (ot.length+1) c8).ownBlock=some c->¬F1 c:=fun c e q=>by
     rcases HAt8.out with z | z
     ·exact hfl c q (z.symm.trans e)
     ·rw[e] at z
      injection z with z
      have:=S.low HG1.out c q
      rw[z,qV] at this
      omega
    have HNs:Hid (0<(ns++m1).length):=zqh (by
     obtain ⟨y,hy⟩:=HMe2.out
     have:=(HCol.out.innF HFi.out (Or.inl rfl) hy).1
     unfold zac at this;rw[qF];omega)
    have HJ:=zqh (zib S 4 (Or.inl rfl) (ot++[b]) hA8 HR8.out (by simp) hnF (fun x hx=>by
     rcases List.mem_append.1 hx with hx | hx
     ·exact Or.inl ((HCol.out.innF HFi.out (Or.inl rfl) (by rw[HOt.out] at hx;exact (List.mem_filter.1 hx).1)).1.up m1)
     ·rw[List.mem_singleton.1 hx];exact HNb.out.elim Or.inr (fun q=>Or.inl q.1)) HNs.out (by rw[qF];simp;omega))
    have HO8:=zqh hO8
    clear hfl hA8 hO8 hnF
    have hol:(((ot.length:Int)+1)==0)=false:=(zab (by omega)).1
    go_wp2_with fail
    refine HJ.out.mono ?_
    rintro e w9 jp
    obtain ⟨r,_,_,rfl,_⟩:=id jp
    have HG:Hid (Got AA w (.pointer (some ⟨gp,0,none⟩)) ns F (fun ms r=>zda ns 4 l ms r) (.returned (.int .i64 r)) w9):=zqh (zea S.toArenaMid (m1:=m1) (L:=ot++[b]) (fun c q=>by
      rcases HG2.out c q with z | z
      ·exact Or.inl z
      ·exact Or.inr (qH HB5.out.size z)) HO8.out (fun c e=>by have:=(HR8.out.lt e).1;omega) jp (fun more r hfm hp hin=>by
     have hbi:=hin b (yJ _ (by simp))
     rcases HNb.out with q | q
     ·rw[q] at hbi;unfold zac at hbi;omega
     ·exact zrU HFi.out HF1.out HCol.out HBy.out q.1 q.2 (by rw[<-HOt.out];exact hp)))
    clear jp
    go_wp2_with fail
    go_ret
    exact HG.out
theorem zqS (S:ArenaMid AA) {w:World} {a v:Value} {ns:List Nd} {F:Nat->Prop} (l:List Int) (h:AA w a ns F) (hv:zb1 w v l) (hN:∃x∈l,¬zac ns x) (hll:l.length<=20000) :
  Calls Tryz.prog 87 #[a,v] w fun e w'=>e=.returned (.int .i64 (-1))/\Below w.heap.size w w':=by
 have HTh:=zqh (zfc S l h hv hll hN)
 clear h hv hN
 go_enter Tryz.func87,Tryz.ntmps87
 go_wp2_with fail
 refine HTh.out.mono ?_
 rintro e w1 ⟨rfl,hw1⟩
 obtain rfl:w=w1:=hw1.symm
 go_wp2_with fail
 go_ret
 exact ⟨rfl,qT _ _⟩
end
end

section
open Go.RowKit
theorem zpy (s t:St) (hs:s.Ok) (ht:t.Ok) (w:World) :
  Calls Tryz.prog 130 #[.agg #[.int .u64 s.w0,.int .u64 s.w1,.int .u64 s.w2,.int .u64 s.w3],.agg #[.int .u64 t.w0,.int .u64 t.w1,.int .u64 t.w2,.int .u64 t.w3]] w fun e w' =>
   e=.returned (.agg #[.int .u64 (s.and t).w0,.int .u64 (s.and t).w1,.int .u64 (s.and t).w2,.int .u64 (s.and t).w3])/\Below w.heap.size w w':=by
 have b0:=zcx s.w0 t.w0 hs.o0 ht.o0
 have b1:=zcx s.w1 t.w1 hs.o1 ht.o1
 have b2:=zcx s.w2 t.w2 hs.o2 ht.o2
 have b3:=zcx s.w3 t.w3 hs.o3 ht.o3
 go_enter Tryz.func130,Tryz.ntmps130
 go_wp2
 refine wp_loop_rounds 5 ?_
 iterate 4
  rw[kT]
  go_wp2
  go_region
  go_wp2
 rw[kT]
 go_wp2
 refine yD (v:=.agg #[.int .u64 (s.and t).w0,.int .u64 (s.and t).w1,.int .u64 (s.and t).w2,.int .u64 (s.and t).w3]) (by simp[results,Tryz.results130,go_sem,St.and]) rfl ⟨rfl,?_⟩
 repeat (first | exact qT _ _ | refine yF ?_ | refine Below.alloc ?_ (by simp;try omega) _)
end

section
open Go.RowKit
theorem zpz (b:Nat):zbn.has b=false:=by
 unfold zbn St.has St.word
 split
 ·simp
 ·split
  ·simp
  ·split<;>simp
theorem zaP.nil5 {ns:List Nd}:zaP ns 5 [] zbn.not:=by
 refine ⟨St.not_ok,fun b hb=>?_⟩
 rw[zrl zbn zm8,zpz]
 constructor
 ·intro q;cases q
 ·rintro ⟨y,hy,_⟩;cases hy
theorem zaP.and {ns:List Nd} {y:Int} {ms:List Int} {U:St} (h:zaP ns 5 ms U) (hy:kd ns y=2) (ho:(zaQ ns y.toNat).set.Ok):zaP ns 5 (ms++[y]) (U.and (zaQ ns y.toNat).set):=by
 refine ⟨St.and_ok (t:=(zaQ ns y.toNat).set) h.1,fun b hb=>?_⟩
 have e:(decide ((5:Int)=5))=true:=rfl
 have:=h.2 b hb
 rw[e,Bool.bne_true,kP] at this
 rw[e,Bool.bne_true,kP,zrk,Bool.and_eq_false_iff,this]
 constructor
 ·rintro (⟨z,hz,q1,q2⟩ | q)
  ·exact ⟨z,jH _ hz,q1,q2⟩
  ·exact ⟨y,yJ _ (by simp),hy,by rw[Bool.bne_true,q];rfl⟩
 ·rintro ⟨z,hz,q1,q2⟩
  rcases List.mem_append.1 hz with hz | hz
  ·exact Or.inl ⟨z,hz,q1,q2⟩
  ·rw[List.mem_singleton.1 hz,Bool.bne_true,kP] at q2;exact Or.inr q2
section
variable {AA:World->Value->List Nd->(Nat->Prop)->Prop}
end
end
end Go.Proofs.YtdmodhnhldbpnaaGreat
