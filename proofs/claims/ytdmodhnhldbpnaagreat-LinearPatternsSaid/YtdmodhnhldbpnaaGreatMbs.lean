/- Joined: LwAtomsA, LwAtoms, LwAcc, LwAwakeA, LinIs, OpenSol. -/
import Derived.Test.YtdmodhnhldbpnaaGreatMbr
import Derived.Shelf.SlIterI.Nil
import Derived.Shelf.SortM.Plain
import Derived.Shelf.SortM.SortNone
import Derived.Ground.GgzProg
import Derived.Ground.SlgmProg
import Derived.Test.YtdmodhnhldbpnaaGreatMad
import Derived.Test.YtdmodhnhldbpnaaGreatMav
import Derived.Test.YtdmodhnhldbpnaaGreatAid
/- formula.Atoms: the numbers of a formula. -/
set_option linter.unusedSimpArgs false
set_option linter.unusedVariables false
set_option maxHeartbeats 8000000
set_option maxRecDepth 100000
namespace Go.Proofs.YtdmodhnhldbpnaaGreat
section
open Go.RowKit Go.Maps Go.Sort Go.Shelf Go.Proofs
structure zjt (w:World) (b:Nat) (s:List Int):Prop where
 ex:∃D:DataW Unit,w.ownsMap Tryz.prog 3 zlT b s.length D/\∀x,I64 x->has D (.int .i64 x)=decide (x∈s)
 nodup:s.Nodup
theorem zjt.made (w:World):zjt (w.alloc (.map #[] 0)) w.heap.size []:=⟨⟨_,World.ownsMap_made _ _ _ _,fun x _=>(show false=decide (x∈([]:List Int)) by simp)⟩,gO⟩
theorem zjt.store {w:World} {m:Nat} {s:List Int} {x:Int} (h:zjt w m s) (hx:I64 x) (hn:s.length<=1000000):∃w',(Instr.mapUpdate 110 (.map (some m)) (.int .i64 x) (.agg #[])).run Tryz.prog w=.ok () w'/\zjt w' m (if x∈s then s else x::s)/\w.grownBy w' (some m):=by
 obtain ⟨D,hown,hD⟩:=h.ex
 obtain ⟨w',hr,h1,h2⟩:=kO (val:=.agg #[]) (d:=.agg []) (ps:=[]) hown zaS Tryz.underlying110 (show s.length<maxLen by unfold maxLen;omega) (zci hx) rfl
 have hsz:=size_put (hown.tidy zaS) (k:=.int .i64 x) (DataW.agg ([]:List (DataW Unit)))
 have hle:=hown.size_le
 refine ⟨w',hr,⟨⟨_,(zhc h1).mono ?_,fun y hy=>?_⟩,?_⟩,h2⟩
 ·rw[hsz,hD x hx]
  by_cases e:x∈s
  ·rw[if_pos (qD e),if_pos e];exact hle
  ·rw[if_neg (by rw[qE e];simp),if_neg e,jX];omega
 ·have hmem:(y∈(if x∈s then s else x::s))↔y=x\/y∈s:=by
   by_cases e:x∈s
   ·rw[if_pos e]
    exact ⟨Or.inr,fun q=>q.elim (fun z=>by rw[z];exact e) id⟩
   ·rw[if_neg e,kB]
  by_cases e:x=y
  ·subst e
   rw[has_put_same hown.isMap (zaS.key (zci hx))]
   exact (qD (hmem.2 (Or.inl rfl))).symm
  ·have hk:(Lit.int .i64 y)≠Lit.int .i64 x:=fun q=>by injection q with _ q;exact e q.symm
   rw[has_put_other hk,hD y hy]
   by_cases hm:y∈s
   ·rw[qD hm,qD (hmem.2 (Or.inr hm))]
   ·rw[qE hm,qE (fun q=>by rcases hmem.1 q with q | q;exact e q.symm;exact hm q)]
 ·by_cases e:x∈s
  ·rw[if_pos e];exact h.nodup
  ·rw[if_neg e];exact List.nodup_cons.2 ⟨e,h.nodup⟩
theorem zqC {w:World} {b n:Nat} {D:DataW Unit} (hown:w.ownsMap Tryz.prog 3 zlT b n D) (x:Int):x∈intKeys D↔I64 x/\has D (.int .i64 x)=true:=by
 have hwf:=intKeys_wf hown Tryz.underlying3
 obtain ⟨es,rfl,hko⟩:=hown.keysOf
 have hint:∀p∈es,∃y,p.1=.int .i64 y:=fun p hp=>by obtain ⟨v,hv⟩:=hko p hp;obtain ⟨y,_,hy,_⟩:=Maps.keyOf_i64 Tryz.underlying3 hv;exact ⟨y,hy⟩
 have hm:x∈intKeys (.map es)↔has (.map es) (.int .i64 x)=true:=by
  rw[has_eq,jI]
  show x∈es.map (fun p=>Go.intOf p.1)↔_
  rw[yN]
  constructor
  ·rintro ⟨p,hp,rfl⟩
   obtain ⟨a,ha⟩:=hint p hp
   exact ⟨p,hp,by rw[ha];simp[Lit.sameKey,Go.intOf]⟩
  ·rintro ⟨p,hp,hs⟩
   obtain ⟨a,ha⟩:=hint p hp
   rw[ha] at hs
   exact ⟨p,hp,by rw[ha];simpa [Lit.sameKey,Go.intOf] using hs⟩
 constructor
 ·intro h
  have h1:=hwf x h
  have h2:IntKind.i64.min<=x/\x<=9223372036854775807:=by simpa [Lit.wf] using h1
  have e:IntKind.i64.min=-9223372036854775808:=rfl
  rw[e] at h2
  exact ⟨h2,hm.1 h⟩
 ·exact fun h=>hm.2 h.2
def libKeys12_ren : Go.Shelf.Ren := ⟨fun | 7 => 73 | 10 => 106 | n => n, fun | 23 => 110 | 26 => 3 | 3 => 111 | 28 => 117 | 0 => 0 | 27 => 116 | 33 => 78 | 4 => 4 | n => n, fun | n => n⟩
theorem libKeys12 : Go.Proofs.SlLaysZI.n7 Tryz.prog libKeys12_ren := {
  mixed := by kernel_rfl
  f7 := ⟨Tryz.f73.name, by decide, Tryz.func73.trans (congrArg some (by kernel_rfl))⟩
  f10 := ⟨Tryz.f106.name, by decide, Tryz.func106.trans (congrArg some (by kernel_rfl))⟩
  t0 := Tryz.underlying0
  a0 := Tryz.isAgg0
  z0 := Tryz.sizeOf0
  v0 := Tryz.zeroValue0
  t4 := Tryz.underlying4
  a4 := Tryz.isAgg4
  z4 := Tryz.sizeOf4
  v4 := Tryz.zeroValue4
  t23 := Tryz.underlying110
  a23 := Tryz.isAgg110
  z23 := Tryz.sizeOf110
  v23 := Tryz.zeroValue110
  t26 := Tryz.underlying3
  a26 := Tryz.isAgg3
  z26 := Tryz.sizeOf3
  v26 := Tryz.zeroValue3
  t27 := Tryz.underlying116
  a27 := Tryz.isAgg116
  z27 := Tryz.sizeOf116
  v27 := Tryz.zeroValue116
  t28 := Tryz.underlying117
  a28 := Tryz.isAgg117
  z28 := Tryz.sizeOf117
  v28 := Tryz.zeroValue117
  t33 := Tryz.underlying78
  a33 := Tryz.isAgg78
  z33 := Tryz.sizeOf78
  v33 := Tryz.zeroValue78 }
def libSorted12_ren : Go.Shelf.Ren := ⟨fun | 6 => 72 | 8 => 104 | 9 => 105 | 11 => 147 | 13 => 149 | 12 => 148 | 23 => 179 | 24 => 180 | 14 => 170 | 15 => 171 | 16 => 172 | 17 => 173 | 18 => 174 | 19 => 175 | 20 => 176 | 21 => 177 | 22 => 178 | 25 => 199 | 26 => 200 | 27 => 201 | 28 => 202 | 29 => 203 | 30 => 167 | 31 => 212 | n => n, fun | 26 => 3 | 28 => 117 | 24 => 80 | 0 => 0 | 3 => 3 | 37 => 74 | 48 => 210 | 50 => 44 | 4 => 4 | 40 => 204 | 39 => 203 | 45 => 96 | 5 => 5 | 9 => 9 | 51 => 229 | 55 => 233 | 57 => 240 | 58 => 241 | 33 => 78 | n => n, fun | n => n⟩
theorem libSorted12 : Go.Proofs.SlLaysZI.n6 Tryz.prog libSorted12_ren := {
  mixed := by kernel_rfl
  f6 := ⟨Tryz.f72.name, by decide, Tryz.func72.trans (congrArg some (by kernel_rfl))⟩
  f8 := ⟨Tryz.f104.name, by decide, Tryz.func104.trans (congrArg some (by kernel_rfl))⟩
  f11 := ⟨Tryz.f147.name, by decide, Tryz.func147.trans (congrArg some (by kernel_rfl))⟩
  t0 := Tryz.underlying0
  a0 := Tryz.isAgg0
  z0 := Tryz.sizeOf0
  v0 := Tryz.zeroValue0
  t24 := Tryz.underlying80
  a24 := Tryz.isAgg80
  z24 := Tryz.sizeOf80
  v24 := Tryz.zeroValue80
  t26 := Tryz.underlying3
  a26 := Tryz.isAgg3
  z26 := Tryz.sizeOf3
  v26 := Tryz.zeroValue3
  t28 := Tryz.underlying117
  a28 := Tryz.isAgg117
  z28 := Tryz.sizeOf117
  v28 := Tryz.zeroValue117
  i26 := by kernel_rfl }
def libSort12_ren : Go.Shelf.Ren := ⟨fun | 5 => 105 | 8 => 149 | 7 => 148 | 19 => 179 | 20 => 180 | 10 => 170 | 11 => 171 | 12 => 172 | 13 => 173 | 14 => 174 | 15 => 175 | 16 => 176 | 17 => 177 | 18 => 178 | 30 => 199 | 31 => 200 | 32 => 201 | 33 => 202 | 34 => 203 | 35 => 167 | 40 => 212 | n => n, fun | 23 => 80 | 25 => 3 | 3 => 3 | 32 => 74 | 22 => 80 | 0 => 0 | 44 => 210 | 46 => 44 | 4 => 4 | 36 => 204 | 35 => 203 | 41 => 96 | 5 => 5 | 9 => 9 | 53 => 229 | 57 => 233 | 63 => 240 | 64 => 241 | n => n, fun | n => n⟩
theorem libSort12 : Go.Proofs.SlLaysM.n5 Tryz.prog libSort12_ren := {
  mixed := by kernel_rfl
  f5 := ⟨Tryz.f105.name, by decide, Tryz.func105.trans (congrArg some (by kernel_rfl))⟩
  f7 := ⟨Tryz.f148.name, by decide, Tryz.func148.trans (congrArg some (by kernel_rfl))⟩
  f8 := Tryz.func149.trans (congrArg some (by kernel_rfl))
  f10 := ⟨Tryz.f170.name, by decide, Tryz.func170.trans (congrArg some (by kernel_rfl))⟩
  f11 := ⟨Tryz.f171.name, by decide, Tryz.func171.trans (congrArg some (by kernel_rfl))⟩
  f12 := ⟨Tryz.f172.name, by decide, Tryz.func172.trans (congrArg some (by kernel_rfl))⟩
  f13 := ⟨Tryz.f173.name, by decide, Tryz.func173.trans (congrArg some (by kernel_rfl))⟩
  f14 := ⟨Tryz.f174.name, by decide, Tryz.func174.trans (congrArg some (by kernel_rfl))⟩
  f15 := ⟨Tryz.f175.name, by decide, Tryz.func175.trans (congrArg some (by kernel_rfl))⟩
  f16 := ⟨Tryz.f176.name, by decide, Tryz.func176.trans (congrArg some (by kernel_rfl))⟩
  f17 := ⟨Tryz.f177.name, by decide, Tryz.func177.trans (congrArg some (by kernel_rfl))⟩
  f18 := ⟨Tryz.f178.name, by decide, Tryz.func178.trans (congrArg some (by kernel_rfl))⟩
  f19 := Tryz.func179.trans (congrArg some (by kernel_rfl))
  f20 := Tryz.func180.trans (congrArg some (by kernel_rfl))
  f30 := ⟨Tryz.f199.name, by decide, Tryz.func199.trans (congrArg some (by kernel_rfl))⟩
  f31 := Tryz.func200.trans (congrArg some (by kernel_rfl))
  f32 := Tryz.func201.trans (congrArg some (by kernel_rfl))
  f33 := ⟨Tryz.f202.name, by decide, Tryz.func202.trans (congrArg some (by kernel_rfl))⟩
  f34 := ⟨Tryz.f203.name, by decide, Tryz.func203.trans (congrArg some (by kernel_rfl))⟩
  f35 := ⟨Tryz.f167.name, by decide, Tryz.func167.trans (congrArg some (by kernel_rfl))⟩
  f40 := ⟨Tryz.f212.name, by decide, Tryz.func212.trans (congrArg some (by kernel_rfl))⟩
  t0 := Tryz.underlying0
  a0 := Tryz.isAgg0
  z0 := Tryz.sizeOf0
  v0 := Tryz.zeroValue0
  t3 := Tryz.underlying3
  a3 := Tryz.isAgg3
  z3 := Tryz.sizeOf3
  v3 := Tryz.zeroValue3
  t4 := Tryz.underlying4
  a4 := Tryz.isAgg4
  z4 := Tryz.sizeOf4
  v4 := Tryz.zeroValue4
  t5 := Tryz.underlying5
  a5 := Tryz.isAgg5
  z5 := Tryz.sizeOf5
  v5 := Tryz.zeroValue5
  t9 := Tryz.underlying9
  a9 := Tryz.isAgg9
  z9 := Tryz.sizeOf9
  v9 := Tryz.zeroValue9
  t22 := Tryz.underlying80
  a22 := Tryz.isAgg80
  z22 := Tryz.sizeOf80
  v22 := Tryz.zeroValue80
  t23 := Tryz.underlying80
  a23 := Tryz.isAgg80
  z23 := Tryz.sizeOf80
  v23 := Tryz.zeroValue80
  t25 := Tryz.underlying3
  a25 := Tryz.isAgg3
  z25 := Tryz.sizeOf3
  v25 := Tryz.zeroValue3
  t32 := Tryz.underlying74
  a32 := Tryz.isAgg74
  z32 := Tryz.sizeOf74
  v32 := Tryz.zeroValue74
  t35 := Tryz.underlying203
  a35 := Tryz.isAgg203
  z35 := Tryz.sizeOf203
  v35 := Tryz.zeroValue203
  t36 := Tryz.underlying204
  a36 := Tryz.isAgg204
  z36 := Tryz.sizeOf204
  v36 := Tryz.zeroValue204
  t41 := Tryz.underlying96
  a41 := Tryz.isAgg96
  z41 := Tryz.sizeOf96
  v41 := Tryz.zeroValue96
  t44 := Tryz.underlying210
  a44 := Tryz.isAgg210
  z44 := Tryz.sizeOf210
  v44 := Tryz.zeroValue210
  t46 := Tryz.underlying44
  a46 := Tryz.isAgg44
  z46 := Tryz.sizeOf44
  v46 := Tryz.zeroValue44
  t53 := Tryz.underlying229
  a53 := Tryz.isAgg229
  z53 := Tryz.sizeOf229
  v53 := Tryz.zeroValue229
  t57 := Tryz.underlying233
  a57 := Tryz.isAgg233
  z57 := Tryz.sizeOf233
  v57 := Tryz.zeroValue233
  t63 := Tryz.underlying240
  a63 := Tryz.isAgg240
  z63 := Tryz.sizeOf240
  v63 := Tryz.zeroValue240
  t64 := Tryz.underlying241
  a64 := Tryz.isAgg241
  z64 := Tryz.sizeOf241
  v64 := Tryz.zeroValue241 }
theorem zs8 (m:Nat):AnyZI.SortsIn Tryz.prog libSorted12_ren Fence.wide m :=
 ⟨fun blk off cap ss W hH hblk hsz=>callsIn_wide.2 (AnyM.slices_Sort_int libSort12 blk off cap ss W hH hblk hsz),
  fun p cap W=>callsIn_wide.2 (AnyM.slices_Sort_int_none libSort12 p cap W)⟩
theorem zqD (mb:Option Nat) (W:World):Calls Tryz.prog 73 #[.map mb] W fun e w'=>e=.returned (.func (.func 106) #[] #[.pointer (some ⟨W.heap.size,0,none⟩)])/\w'=W.alloc (.cells #[.map mb] 110) :=
 (callsIn_wide (n:=5)).1 (AnyZI.keys_in libKeys12 Fence.wide 5 trivial rfl mb W)
theorem zmo {w:World} {b n:Nat} {D:DataW Unit} (hown:w.ownsMap Tryz.prog 3 zlT b n D) (hmax:Maps.size D<=20000) :
  Calls Tryz.prog 72 #[.func (.func 106) #[] #[.pointer (some ⟨w.heap.size,0,none⟩)]] (w.alloc (.cells #[.map (some b)] 110)) fun e w'=>∃(v:Value) (ss:List Int),e=.returned v/\ss.Perm (intKeys D)/\w'.ownsRow w.heap.size 3 1 v ss.length ((ss.mergeSort (fun x y=>decide (x<=y))).map (Value.int .i64))/\Below w.heap.size w w':=by
 have hbl:=hown.lt
 have hseq:SeqGives Fence.wide 2 Tryz.prog 106 #[.pointer (some ⟨w.heap.size,0,none⟩)] encZ (fun ss=>ss.Perm (intKeys D)) (Maps.size D) (w.alloc (.cells #[.map (some b)] 110)) :=
  AnyZI.keys_gives (ρ:=libKeys12_ren) {libKeys12 with} Fence.wide _ trivial rfl (by omega) w.heap.size b n D _ (by simp) (by simp) (by
   obtain ⟨es,clock,hb,Ft,hs,hD⟩:=hown
   exact ⟨es,clock,(yL _ _ b hbl).trans hb,Ft,hs,hD⟩)
 have cS:=AnyZI.sorted_in libSorted12 Fence.wide 5 trivial trivial trivial trivial rfl (by omega) (zs8 _) (enters_of Tryz.func105 (by kernel_rfl) rfl) 106 #[.pointer (some ⟨w.heap.size,0,none⟩)] trivial (enters_of Tryz.func106 (by kernel_rfl) rfl) _ _ (by unfold maxLen;omega) (by omega) _ hseq
 refine ((callsIn_wide (n:=5)).1 cS).mono ?_
 rintro e w' ⟨v,ss,rfl,hS,hrow,hnil,hb⟩
 exact ⟨v,ss,rfl,hS,ownsRow_base_a hrow (by simp),((qT _ w).alloc zqn _).trans (hb.mono (by simp))⟩
end

section
open Go.RowKit Go.Maps Go.Sort Go.Shelf Go.Proofs
theorem zus (f:Fm) (N:Nat) (A:Option Addr) (n c:Nat) (w:World) (h:zcF w (.slice A n c) f) (hN:N<=20000) (hI:∀q∈f,∀x∈q,0<=x/\x<(N:Int)) :
  Calls Tryz.prog 42 #[.slice A n c] w fun e w'=>∃(v:Value) (l:List Int),e=.returned v/\w'.ownsRow w.heap.size 3 1 v l.length (l.map (Value.int .i64))/\(∀x,x∈l↔∃q∈f,x∈q)/\l.length<=20000/\Below w.heap.size w w':=by
 have HF:=zqh h
 have HI:=zqh hI
 have hm:=h.max
 obtain rfl:=h.len
 clear h hI
 have hmm:=@run_makeMap Tryz.prog
 go_enter Tryz.func42,Tryz.ntmps42
 go_wp2_with fail
 go_loopw [11] (fun v wr=>∃(j:Nat) (s:List Int),j<=f.length/\v=.int .i64 j/\Hid (Below w.heap.size w wr)/\Hid (zjt wr w.heap.size s)/\Hid (∀x,x∈s↔∃q∈f.take j,x∈q)) (fun v _=>f.length-(intOf v).toNat)
 case atStart =>
  exact ⟨0,[],qK _,rfl,zqh (zqb),zqh (zjt.made w),zqh (fun x=>by simp)⟩
 case round =>
  clear hmm
  obtain ⟨j,s,hj,rfl,HB,HS,HM⟩:=hrel
  by_cases hlt:j<f.length
  ·have g1:(0:Int)<=(j:Int):=by omega
   have g2:(j:Int)<(f.length:Int):=by omega
   obtain ⟨b,off,A2,c2,rfl,_,q0,hp⟩:=(HF.out.next HB.out).at j hlt
   obtain ⟨q,hq⟩:∃q,za5 f j=q:=⟨_,rfl⟩
   rw[hq] at q0 hp
   have HQ:Hid (f[j]=q):=zqh (by rw[<-hq,zaz hlt])
   have hqm:q∈f:=by rw[<-HQ.out];exact qG hlt
   have HQm:=zqh hqm
   have HP:Hid (∀w',Below w.heap.size w w'->zak w' (.slice A2 q.length c2) q):=zqh (fun w' hb=>by
    obtain ⟨b',off',A3,c3,e,_,r0,hp'⟩:=(HF.out.next hb).at j hlt
    injection e with e
    injection e with e1 e2 _
    subst e1 e2
    rw[hq] at r0 hp'
    have hbl:b<w.heap.size:=by
     obtain ⟨b9,off9,A9,c9,e9,hlt9,_,_⟩:=HF.out.at j hlt
     injection e9 with e9
     injection e9 with e9 _ _
     omega
    have h1:=(yA (a:=⟨b,off+j,none⟩) (HB.out.block b hbl)).symm.trans q0
    have h2:=(yA (a:=⟨b,off+j,none⟩) (hb.block b hbl)).symm.trans r0
    rw[h1] at h2
    injection h2 with h2
    rw[h2]
    exact hp')
   have hmq:=hp.max
   clear hq hp hqm
   go_wp2_with fail
   go_loopw [17] (fun v wo=>∃(i:Nat) (s':List Int),i<=q.length/\v=.int .i64 i/\Hid (Below w.heap.size w wo)/\Hid (zjt wo w.heap.size s')/\Hid (∀x,x∈s'↔x∈s\/x∈q.take i)) (fun v _=>q.length-(intOf v).toNat)
   case atStart=>exact ⟨0,s,qK _,rfl,HB,HS,zqh (fun x=>by simp)⟩
   case round =>
    obtain ⟨i,s',hi,rfl,HB2,HS2,HM2⟩:=hrel
    by_cases hil:i<q.length
    ·have k1:(0:Int)<=(i:Int):=by omega
     have k2:(i:Int)<(q.length:Int):=by omega
     obtain ⟨b2,off2,rfl,_,r0⟩:=(HP.out wr HB2.out).at i hil
     obtain ⟨x,hx⟩:∃x,zbi q i=x:=⟨_,rfl⟩
     rw[hx] at r0
     have HXe:Hid (q[i]=x):=zqh (by rw[<-hx,zay hil])
     have hxb:=HI.out q HQm.out x (by rw[<-HXe.out];exact qG hil)
     have hsl:s'.length<=N:=zbd HS2.out.nodup (fun z hz=>by
      rcases (HM2.out z).1 hz with h1 | h1
      ·obtain ⟨q2,h2,h3⟩:=(HM.out z).1 h1
       exact HI.out q2 (qP h2) z h3
      ·exact HI.out q HQm.out z (qP h1))
     obtain ⟨w',hr,hs',hg'⟩:=HS2.out.store (x:=x) (by unfold I64;omega) (by omega)
     have HS3:=zqh hs'
     have HB3:Hid (Below w.heap.size w w'):=zqh (HB2.out.grown hg' HB2.out.size (fun b e=>by injection e with e;omega))
     clear hx hs' hg' hxb hsl q0
     go_wp2_with fail
     refine ⟨⟨i+1,_,by omega,by go_num,HB3,HS3,zqh (fun y=>?_)⟩,by simp[intOf];omega⟩
     rw[qW hil,yO,xG,HXe.out]
     have hm2:=HM2.out y
     by_cases e:x∈s'
     ·rw[if_pos e,hm2]
      constructor
      ·rintro (z | z)
       ·exact Or.inl z
       ·exact Or.inr (Or.inl z)
      ·rintro (z | z | z)
       ·exact Or.inl z
       ·exact Or.inr z
       ·subst z;exact hm2.1 e
     ·rw[if_neg e,kB,hm2]
      constructor
      ·rintro (z | z | z)
       ·exact Or.inr (Or.inr z)
       ·exact Or.inl z
       ·exact Or.inr (Or.inl z)
      ·rintro (z | z | z)
       ·exact Or.inr (Or.inl z)
       ·exact Or.inr (Or.inr z)
       ·exact Or.inl z
    ·obtain rfl:i=q.length:=by omega
     go_wp2_with fail
     refine ⟨⟨j+1,s',by omega,by go_num,HB2,HS2,zqh (fun y=>?_)⟩,by simp[intOf];omega⟩
     have hm2:=HM2.out y
     rw[qQ] at hm2
     rw[hm2,HM.out y,qW hlt,HQ.out]
     constructor
     ·rintro (⟨q2,z1,z2⟩ | z)
      ·exact ⟨q2,jH _ z1,z2⟩
      ·exact ⟨q,by simp,z⟩
     ·rintro ⟨q2,z1,z2⟩
      rcases List.mem_append.1 z1 with z1 | z1
      ·exact Or.inl ⟨q2,z1,z2⟩
      ·rw[List.mem_singleton.1 z1] at z2;exact Or.inr z2
  ·obtain rfl:j=f.length:=by omega
   obtain ⟨D,hown,hD⟩:=HS.out.ex
   have hsN:s.length<=N:=zbd HS.out.nodup (fun z hz=>by
    obtain ⟨q2,h2,h3⟩:=(HM.out z).1 hz
    exact HI.out q2 (qP h2) z h3)
   have hsz:Maps.size D<=20000:=by have:=hown.size_le;omega
   have HK:Hid (∀x,x∈intKeys D↔∃q∈f,x∈q):=zqh (fun x=>by
    rw[zqC hown x]
    have hmx:=HM.out x
    rw[qQ] at hmx
    constructor
    ·rintro ⟨h1,h2⟩
     rw[hD x h1] at h2
     exact hmx.1 (jB h2)
    ·intro h2
     obtain ⟨q2,z1,z2⟩:=id h2
     have h1:I64 x:=by have:=HI.out q2 z1 x z2;unfold I64;omega
     exact ⟨h1,by rw[hD x h1];exact qD (hmx.2 h2)⟩)
   have HLn:Hid ((intKeys D).length=Maps.size D):=zqh (by
    obtain ⟨es,rfl,_⟩:=hown.keysOf
    simp[intKeys,Maps.size])
   have HS5:=zqh (zmo hown hsz)
   have HSz:=zqh hsz
   clear hown hD hsN hsz
   go_wp2_with fail
   refine (zqD _ wr).mono ?_
   rintro e w2 ⟨rfl,rfl⟩
   go_wp2_with fail
   refine HS5.out.mono ?_
   rintro e w5 ⟨v,ss,rfl,hp,hrow,hb⟩
   have HP:=zqh hp
   have HRow:=zqh hrow
   have HB5:=zqh (HB.out.trans (hb.mono HB.out.size))
   obtain ⟨A7,c7,hv7⟩:=zbI hrow
   subst hv7
   clear hp hrow hb
   go_wp2_with fail
   go_ret
   refine ⟨_,ss.mergeSort (fun x y=>decide (x<=y)),rfl,?_,fun x=>?_,?_,HB5.out⟩
   ·rw[List.length_mergeSort]
    exact ownsRow_base_a HRow.out HB.out.size
   ·rw[zip,HP.out.mem_iff,HK.out x]
   ·rw[List.length_mergeSort,HP.out.length_eq,HLn.out]
    exact HSz.out
end

section
open Go.RowKit
structure zut (p:LP) (w0:World) (ns:List Nd) (F:Nat->Prop) (bx:Nat) (W:World):Prop where
 lw:LW p W ns F false
 box:At W bx 63 #[.pointer (some ⟨p.gw,0,none⟩)]
 below:Below w0.heap.size w0 W
theorem zuu {p:LP} {w0 W:World} {ns:List Nd} {F:Nat->Prop} {bx:Nat} {x:Int} (h:zut p w0 ns F bx W) (hx:zac ns x) (hn:w0.heap.size<=p.mn) (hb:bx≠p.mn) :
  Calls Tryz.prog 38 #[.int .i64 x,.pointer (some ⟨bx,0,none⟩)] W fun e W'=>e=.returned (.bool (!zan ns p.bt x))/\zut p w0 ns F bx W'/\OffF (fun b=>b=p.mn) W W':=by
 have HN:=zqh (zre h.lw x hx)
 have HH:=zqh h
 have c0:=h.box.cell 0
 obtain ⟨r,hr⟩:∃r,zan ns p.bt x=r:=⟨_,rfl⟩
 unfold zfu at HN
 rw[hr] at HN ⊢
 clear h hr
 go_enter Tryz.func38,Tryz.ntmps38
 go_wp2_with fail
 refine HN.out.mono ?_
 rintro e w1 ⟨rfl,hg⟩
 have HG:=zqh hg
 have HE:Hid (zut p w0 ns F bx w1):=zqh ⟨hg.lw,(hg.n.block bx HH.out.box.lt hb).trans HH.out.box,zc0 HH.out.below hg.n (fun b q=>by rw[q];exact hn)⟩
 clear hg
 cases r
 ·go_wp2_with fail
  go_ret
  exact ⟨rfl,HE.out,HG.out.n⟩
 ·go_wp2_with fail
  go_ret
  exact ⟨rfl,HE.out,HG.out.n⟩
theorem zmp (Inv:World->Prop) (bx:Value) (A:Option Addr) (c:Nat) (w:World) (h:Inv w) (hc:c<=9223372036854775807) :
  Calls Tryz.prog 41 #[.slice A 0 c,.func (.func 38) #[] #[bx]] w fun e w'=>e=.returned (.slice A 0 c)/\Inv w':=by
 have HIx:=zqh (zow [] (fun _=>false) Inv bx A 0 c w h (fun W z=>⟨A,c,rfl,qK _,hc,(fun x hx=>by cases hx),fun q=>absurd q (jM _)⟩) (fun W x z hx=>by cases hx))
 clear h
 go_enter Tryz.func41,Tryz.ntmps41
 go_wp2_with fail
 refine HIx.out.mono ?_
 rintro e w1 ⟨r,rfl,hk,hv⟩
 have HV:=zqh hv
 clear hv HIx
 rcases hk with ⟨rfl,h0⟩ | ⟨k,hkl,_⟩
 ·go_wp2_with fail
  go_ret
  exact ⟨rfl,HV.out⟩
 ·exact absurd hkl (jD _)
theorem zoy {ns:List Nd} {f:Fm} {l:List Int} {q:Int->Bool} (hl:∀x,x∈l↔∃p∈f,x∈p):fP (fun x=>decide (x∈l.filter (fun x=>!(!q x)))) f=fP q f:=zd6 (fun p hp n hn=>by
 rw[qZ,qY,List.mem_filter,Bool.not_not]
 exact ⟨fun z=>z.2,fun z=>⟨(hl n).2 ⟨p,hp,hn⟩,z⟩⟩)
theorem zln {w:World} {a:Value} {ns:List Nd} {F:Nat->Prop} {A:Option Addr} {n c:Nat} {f:Fm} (bt:Nat) (h:AA w a ns F) (hv:zcF w (.slice A n c) f) (hf:OkL ns f) (hbt:bt<256) :
  Calls Tryz.prog 13 #[a,.slice A n c,.int .u8 bt] w fun e w'=>e=.returned (.bool (fP (fun x=>zan ns bt x) f))/\Below w.heap.size w w':=by
 have HO:=zqh (zov h hv hf)
 have HA:=zqh h
 have HV:=zqh hv
 have HF:=zqh hf
 have hmx:=zar.max h
 clear h hv hf
 go_enter Tryz.func13,Tryz.ntmps13
 go_wp2_with fail
 refine HO.out.mono ?_
 rintro e w1 ⟨rfl,hb1⟩
 have HB1:=zqh hb1
 have HBe:=zqh (zlm 0 bt (HA.out.next hb1) (by omega) hbt)
 clear hb1 HO
 go_wp2_with fail
 refine HBe.out.mono ?_
 rintro e w2 ⟨p,rfl,hbg⟩
 have HBg:=zqh hbg
 obtain ⟨w3,hw3⟩:∃w3,w3=w2.alloc (.cells #[.pointer (some ⟨p.gw,0,none⟩)] 63):=⟨_,rfl⟩
 have hb23:Below w2.heap.size w2 w3:=by rw[hw3];exact zqb
 have hbx:At w3 w2.heap.size 63 #[.pointer (some ⟨p.gw,0,none⟩)]:=by rw[hw3];exact At.new _ _ _
 have hb13:Below w.heap.size w w3:=HB1.out.trans ((hbg.below.trans (hb23.mono hbg.below.size)).mono HB1.out.size)
 have HB3:=zqh hb13
 have HBx:=zqh hbx
 have HL3:=zqh (hbg.lw.next hb23)
 have HNb:Hid (w2.heap.size≠p.mn):=zqh (fun e=>by have:=hbg.lw.lts.2.2.2;omega)
 have HNn:Hid (w.heap.size<=p.mn):=zqh (qH HB1.out.size hbg.new.2.2.2)
 have HBt:Hid (p.bt=bt):=zqh hbg.bt
 have HS23:Hid (w3.heap.size=w2.heap.size+1):=zqh (by rw[hw3,qV])
 have HAt:=zqh (zus f ns.length A n c w3 (HV.out.next hb13) hmx (fun q hq x hx=>zbf.inF HF.out q hq x hx))
 rw[hw3] at HAt
 have HW3:=zqh hw3
 clear hbg hb23 hbx hb13 hw3 HBe
 go_wp2_with fail
 refine HAt.out.mono ?_
 rintro e w4 ⟨v,l,rfl,hrow,hml,hll,hb4⟩
 rw[<-HW3.out] at hrow hb4
 have HB4:=zqh (HB3.out.trans (hb4.mono HB3.out.size))
 have HMl:=zqh hml
 have HLl:=zqh hll
 have hIin:∀x∈l,zac ns x:=fun x hx=>by obtain ⟨q,h1,h2⟩:=(hml x).1 hx;exact zbf.inF HF.out q h1 x h2
 have hIs:∀x∈l,IsI x:=fun x hx=>zcp hmx (hIin x hx)
 have HIi:=zqh hIin
 have hL4:=HL3.out.next hb4
 have hbx4:At w4 w2.heap.size 63 #[.pointer (some ⟨p.gw,0,none⟩)]:=(hb4.block _ HBx.out.lt).trans HBx.out
 obtain ⟨h1,h2⟩:=id hrow
 have HV4:=zqh (HV.out.next HB4.out)
 rcases h2 with ⟨rfl,hn0⟩ | ⟨g,cap,cur,rfl,hbg,hc,r1,r2,r3,r4⟩
 ·have hl0:l=[]:=qU hn0
  subst hl0
  have HDe:=zqh (zmp (zut p w ns F w2.heap.size) (.pointer (some ⟨w2.heap.size,0,none⟩)) none 0 w4 ⟨hL4,hbx4,HB4.out⟩ (by omega))
  clear hrow hml hll hb4 hIin hIs hL4 hbx4 h1 hn0
  go_wp2_with fail
  refine HDe.out.mono ?_
  rintro e w5 ⟨rfl,hi5⟩
  have HI5:=zqh hi5
  have HHo:=zqh (zrh f [] A none n c 0 0 w5 (HV.out.next hi5.below) ⟨none,0,rfl,qL _,(by omega),(fun x hx=>by cases hx),fun q=>absurd q (jM _)⟩ (by simp))
  clear hi5 HDe
  go_wp2_with fail
  refine HHo.out.mono ?_
  rintro e w6 ⟨rfl,hb6⟩
  have HB6:=zqh (HI5.out.below.trans (hb6.mono HI5.out.below.size))
  clear hb6
  go_wp2_with fail
  go_ret
  refine ⟨?_,HB6.out⟩
  rw[<-zoy (ns:=ns) (q:=fun x=>zan ns bt x) HMl.out]
  rfl
 ·have hglt:=(World.ownsRow.lt hrow g rfl).2
  obtain ⟨p1,hp1⟩:∃p1:LP,p1={p with y:=fun b=>b=g}:=⟨_,rfl⟩
  have hgw:p1.gw=p.gw:=by rw[hp1]
  have hmn:p1.mn=p.mn:=by rw[hp1]
  have hpb:p1.bt=bt:=by rw[hp1];exact HBt.out
  have hL1:LW p1 w4 ns F false:=by rw[hp1];exact HL3.out.addY hb4 _ (fun b q=>Or.inr (by rw[q];exact ⟨hbg,hglt⟩))
  have hXg:¬XB p1 F g:=fun q=>by
   rw[hp1] at q
   have:=HL3.out.low g q
   omega
  have hbx1:At w4 w2.heap.size 63 #[.pointer (some ⟨p1.gw,0,none⟩)]:=by rw[hgw];exact hbx4
  have hnn:w.heap.size<=p1.mn:=by rw[hmn];exact HNn.out
  have hnb:w2.heap.size≠p1.mn:=by rw[hmn];exact HNb.out
  have hgmn:g≠p1.mn:=fun e=>hXg (Or.inr (Or.inr (Or.inr (Or.inr e))))
  have hyg:p1.y g:=by rw[hp1]
  have hg0:w.heap.size<=g:=qH HB3.out.size hbg
  have hbg2:w2.heap.size≠g:=by have:=HS23.out;omega
  have hDR:DR w4 g l.length (zbi l):=by
   refine ⟨hglt,fun j hj=>⟨?_,frozen_of_row w4 g j cur _ hc⟩⟩
   have h5:(cur.toList.take (l.length*1))[j]?=(l.map (Value.int .i64))[j]?:=by rw[r4]
   rw[Nat.mul_one,jV hj] at h5
   have h6:=At.cell (show At w4 g 3 cur from hc) j
   rw[h6,<-gA,h5]
   simp[hj,zay hj]
  have HDe:=zqh (zs5 l (fun x=>!zan ns bt x) (zut p1 w ns F w2.heap.size) (.pointer (some ⟨w2.heap.size,0,none⟩)) g cap w4 ⟨hL1,hbx1,HB4.out⟩ hDR hIs r1 (by unfold maxLen at r2;omega)
   (fun W W' z hg hs=>⟨z.lw.turnY hg (fun b e=>by injection e with e;subst e;exact ⟨hyg,hXg⟩),(hg.block _ z.box.lt (fun e=>by injection e with e;exact hbg2 e)).trans z.box,z.below.grown hg z.below.size (fun b e=>by injection e with e;omega)⟩)
   (fun W x z hx=>(zuu z (HIi.out x hx) hnn hnb).mono (fun e W' q=>⟨by rw[q.1,hpb],q.2.1,q.2.2.block g (z.lw.ylow g hyg) hgmn,q.2.2.size⟩)))
  have HFl:Hid ((l.filter (fun x=>!(!zan ns bt x))).length<=20000):=zqh (qH (xA _ _) HLl.out)
  have HVal:Hid (fP (fun x=>decide (x∈l.filter (fun x=>!(!zan ns bt x)))) f=fP (fun x=>zan ns bt x) f):=zqh (zoy (ns:=ns) (q:=fun x=>zan ns bt x) HMl.out)
  obtain ⟨l2,hl2⟩:∃l2,l.filter (fun x=>!(!zan ns bt x))=l2:=⟨_,rfl⟩
  rw[hl2] at HFl HVal HDe
  clear hrow hml hll hb4 hIin hIs hL4 hbx4 h1 hc r1 r2 r3 r4 hglt hp1 hgw hmn hpb hL1 hXg hbx1 hnn hnb hgmn hyg hg0 hbg2 hDR hbg hl2
  go_wp2_with fail
  refine HDe.out.mono ?_
  rintro e w5 ⟨rfl,hi5,ha5⟩
  have HI5:=zqh hi5
  have HHo:=zqh (zrh f l2 A (some ⟨g,0,none⟩) n c _ cap w5 (HV.out.next hi5.below) ha5 HFl.out)
  rw[HVal.out] at HHo
  clear hi5 ha5 HDe
  go_wp2_with fail
  refine HHo.out.mono ?_
  rintro e w6 ⟨rfl,hb6⟩
  have HB6:=zqh (HI5.out.below.trans (hb6.mono HI5.out.below.size))
  clear hb6
  go_wp2_with fail
  go_ret
  exact ⟨rfl,HB6.out⟩
end

section
open Go.RowKit
def LOk (p:LP) (w:World) (ns:List Nd) (F:Nat->Prop) (id:Int) (e:Ending) (w1:World):Prop:=∃(v:Value) (f:Fm) (ns1:List Nd) (F1:Nat->Prop),e=.returned v/\za8 p w ns F false w1 ns1 F1 false/\zaJ (XY p F1) w1 v f/\zbf (Ls ns1) f/\OfR ns id ns1 f
section
variable {p:LP} {w:World} {ns:List Nd} {F:Nat->Prop}
theorem zs9 (id:Int) (h:LW p w ns F false) (hin:zac ns id) (hk:kd ns id=1) :
  Calls Tryz.prog 62 #[.pointer (some ⟨p.gw,0,none⟩),.int .i64 id] w (LOk p w ns F id):=by
 have HX:=zqh hin
 have HI:=zqh hin
 have HKi:=zqh hk
 have IH:=True.intro
 clear hin hk
 have HW:=zqh h
 have HIH:=zqh IH
 obtain ⟨gp,hgp⟩:=zar.ptr h.ar
 have HN:=zqh (zar.node id h.ar (zcg h.few HX.out))
 rw[show decide (0<=id/\id<(ns.length:Int))=true from qD HX.out] at HN
 have c0:=h.cells.1
 rw[hgp] at c0 HN
 have HFi:=zqh h.fine
 have HFw:=zqh h.few
 clear h IH hgp
 go_enter Tryz.func62,Tryz.ntmps62
 go_wp2_with fail
 refine HN.out.mono ?_
 rintro e w3 ⟨u,rfl,hu,hb3,_⟩
 have hu:=hu HX.out
 have HK:Hid (kd ns id=u.kind/\ka ns id=u.a/\kb ns id=u.b):=zqh ⟨by unfold kd;rw[<-hu],by unfold ka;rw[<-hu],by unfold kb;rw[<-hu]⟩
 have HU:=zqh hu
 have HXb:=zqh (zbq w3 u)
 have HG:=zqh (za8.of HW.out (hb3.trans ((zaN w3 u).mono hb3.size)))
 have hone:=Nd.one u
 have ck:=(Nd.cells HXb.out).1
 have cA:=(Nd.cells HXb.out).2.2.2.2.2.1
 clear hu hb3
 have HU1:Hid (u.kind=1):=zqh (by rw[<-HK.out.1];exact HKi.out)
 rw[HU1.out] at ck
 have HC:=zqh (zsQ (zaD w3 u) id (by have:=HI.out;unfold zac at this;omega) (zcp HFw.out HI.out))
 clear cA
 go_wp2_with (first
   |(with_reducible show wpList _ _ _ (⟨none,.store 61 _ _,_,_,_,_⟩::_) _ _
     refine qN rfl 61 _ _ rfl w3.heap.size u.cs.toArray rfl rfl 61 Nd.zero.cs.toArray (At.new _ _ _) (by kernel_rfl) rfl hone ?_
     first | change wpList _ _ _ _ _ (zaD w3 u) | change Exit.then _ _ _ _ (zaD w3 u))
   |(with_reducible show wpList _ _ _ (⟨_,.load 61 _,_,_,_,_⟩::_) _ _
     refine zaa (by rfl) 61 _ rfl w3.heap.size rfl 61 u.cs.toArray (0,0) _ HXb.out Tryz.underlying61 rfl (by rw[qO,Nd.cs_length];kernel_rfl) ?_)
   | fail)
 refine HC.out.mono ?_
 rintro e w5 ⟨A5,c5,rfl,hf5,hb5⟩
 have HK5:=zqh (zaZ.keeps HG.out.lw hf5)
 have HG5:=zqh (HG.out.next hb5)
 clear hf5 hb5
 go_wp2_with fail
 go_ret
 have hfm:zbf (Ls ns) [[id]]:=zbf.atom (by have:=HI.out;unfold zac at this;omega) (zfs.2 HI.out)
 exact ⟨_,_,_,_,rfl,HG5.out,HK5.out,hfm,zjR⟩
theorem zju (id:Int) (h:LW p w ns F false) (hin:zac ns id) (hk:kd ns id=1) :
  Calls Tryz.prog 27 #[.pointer (some ⟨p.gw,0,none⟩),.int .i64 id] w (LOk p w ns F id):=by
 have hid:=zcg h.few hin
 have HO:Hid (Calls Tryz.prog 61 #[.pointer (some ⟨p.gw,0,none⟩),.map (some p.mf),.int .i64 id,.func (.func 62) #[.pointer (some ⟨p.gw,0,none⟩)] #[]] w (LOk p w ns F id)):=zqh (by
  obtain ⟨s,get,k1,k2⟩:=h.fo.ex
  have hlk:=k1.look hid
  have HW:=zqh h
  have c7:=h.cells.2.2.2.2.2.2.2
  by_cases hs:id∈s
  ·obtain ⟨hi,f,hk,hfi,hR⟩:=k2 id hs
   obtain ⟨A,c,hv⟩:=hk.at
   rw[if_pos hs,qD hs,hv] at hlk
   rw[hv] at hk
   have HK:=zqh hk
   have HI:=zqh hfi
   have HRo:=zqh (hR rfl)
   clear h hin k1 k2 hs hi hv hk hfi hR
   go_enter Tryz.func61,Tryz.ntmps61
   go_wp2_with fail
   go_ret
   exact ⟨_,_,_,_,rfl,za8.refl HW.out,HK.out,HI.out,HRo.out⟩
  rw[if_neg hs,qE hs] at hlk
  have HIn:=zqh hin
  have HC:=zqh (zs9 id h hin hk)
  clear h hin k1 k2 hs hk
  go_enter Tryz.func61,Tryz.ntmps61
  go_wp2_with fail
  refine HC.out.mono ?_
  rintro e w3 ⟨v3,f,ns3,F3,rfl,hg3,hk3,hi3,hd3⟩
  obtain ⟨A3,c3,hv3⟩:=hk3.at
  subst hv3
  obtain ⟨w4,hr4,hg4⟩:=hg3.lw.storeFo (hg3.isIn HIn.out) hk3 hi3 (fun _=>by
   obtain ⟨m,rfl⟩:=hg3.more
   unfold OfR at hd3 ⊢
   rw[zez HIn.out]
   exact hd3)
  have HG4:=zqh (hg3.trans hg4)
  have HK4:=zqh (hk3.grow hg4)
  have HI4:=zqh hi3
  have HD4:=zqh hd3
  clear hg3 hk3 hi3 hd3 hg4
  go_wp2_with fail
  go_ret
  exact ⟨_,_,_,_,rfl,HG4.out,HK4.out,HI4.out,HD4.out⟩)
 have cm:=h.cells.2.2.2.1
 clear h hin hk
 go_enter Tryz.func27,Tryz.ntmps27
 go_wp2_with fail
 refine HO.out.mono ?_
 rintro e w3 ⟨v3,f,ns3,F3,rfl,hg3,hk3,hi3,hd3⟩
 obtain ⟨A3,c3,hv3⟩:=hk3.at
 subst hv3
 have HG:=zqh hg3
 have HK:=zqh hk3
 have HI:=zqh hi3
 have HD:=zqh hd3
 clear hg3 hk3 hi3 hd3
 go_wp2_with fail
 go_ret
 exact ⟨_,_,_,_,rfl,HG.out,HK.out,HI.out,HD.out⟩
end
end

section
open Go.RowKit
theorem zvr {w:World} {a:Value} {ns:List Nd} {F:Nat->Prop} (id:Int) (h:AA w a ns F) (hin:zac ns id) (hk:kd ns id=1):Calls Tryz.prog 8 #[a,.int .i64 id] w fun e w'=>∃(A:Option Addr) (n c:Nat) (f:Fm) (more:List Nd) (F':Nat->Prop),e=.returned (.tuple #[.slice A n c,.int .i64 0])/\AA w' a (ns++more) F'/\(∀b,F' b->F b\/w.heap.size<=b)/\OffF F w w'/\zaJ F' w' (.slice A n c) f/\OkL (ns++more) f/\OfR ns id (ns++more) f:=by
 have HH:=zqh (zuD id h)
 rw[show decide (0<=id/\id<(ns.length:Int))=true from qD hin] at HH
 have HB:=zqh (zlm 0 0 h (by omega) (by omega))
 have HI:=zqh hin
 have HKd:=zqh hk
 clear h hin hk
 go_enter Tryz.func8,Tryz.ntmps8
 go_wp2_with fail
 refine HH.out.mono ?_
 rintro e w1 ⟨rfl,rfl⟩
 go_wp2_with fail
 refine HB.out.mono ?_
 rintro e w2 ⟨p,rfl,hb⟩
 have HBg:=zqh hb
 have HF:=zqh (zju id hb.lw HI.out HKd.out)
 clear hb
 go_wp2_with fail
 refine HF.out.mono ?_
 rintro e w3 ⟨v3,f,ns3,F3,rfl,hg3,hk3,hi3,hd3⟩
 obtain ⟨A3,c3,hv3⟩:=hk3.at
 subst hv3
 have c7:=hg3.lw.cells.2.2.2.2.2.2.2
 have HE:Hid (Calls Tryz.prog 26 #[.pointer (some ⟨p.gw,0,none⟩),.slice A3 f.length c3] w3 fun e w'=>e=.returned (.tuple #[.slice A3 f.length c3,.int .i64 0])/\w'=w3):=zqh (by
  clear hg3 hk3 hi3 hd3 HH HB HF
  go_enter Tryz.func26,Tryz.ntmps26
  go_wp2_with fail
  go_ret2
  exact ⟨rfl,rfl⟩)
 have HG3:=zqh hg3
 have HK3:=zqh hk3
 have HI3:=zqh hi3
 have HD3:=zqh hd3
 clear hg3 hk3 hi3 hd3 c7
 go_wp2_with fail
 refine HE.out.mono ?_
 rintro e w4 ⟨rfl,rfl⟩
 go_wp2_with fail
 go_ret2
 obtain ⟨m,rfl⟩:=HG3.out.more
 have hA:=HG3.out.lw.ar
 rw[HBg.out.a] at hA
 exact ⟨_,_,_,f,m,F3,rfl,hA,HBg.out.low HG3.out,HBg.out.off HG3.out,HK3.out.less (fun k q=>Or.inl (Or.inl q)),HI3.out,HD3.out⟩
theorem zta {ns ms:List Nd} {id:Int} {f:Fm} (hf:zaA ns) (hi:zac ns id) (hk:kd ns id=1) (hm:InF ms f) (h:OfR ns id ms f):fP (fun x=>zan ms 0 x) f=true:=by
 have h1:=h [] [0] 0 0 ⟨(fun x hx=>by cases hx),qL _,qL _⟩
 rw[show zeK ns id [] [0] 0 0=true from by unfold zeK;rw[zkt hf hi hk];rfl] at h1
 rw[<-h1]
 exact zd6 (fun p hp n hn=>by
  have h2:=hm p hp n hn
  unfold zac at h2
  unfold zan
  rw[qD h2,jS])
theorem zqE (w:World):Calls Tryz.prog 5 #[] w fun e w'=>e=.returned (.bool true)/\Below w.heap.size w w':=by
 go_enter Tryz.func5,Tryz.ntmps5
 go_wp2_with fail
 refine (zuL w).mono ?_
 rintro e w1 ⟨a,F1,rfl,hA1,hF1,hB1⟩
 obtain ⟨ga,rfl⟩:=zar.ptr hA1
 have HB1:=zqh hB1
 have HF1:=zqh hF1
 have HA1:=zqh hA1
 have HE:=zqh (ztu zar hA1 zmY (by simp))
 clear hA1 hF1 hB1
 go_wp2_with fail
 refine HE.out.mono ?_
 rintro e w2 ⟨r,more,F2,rfl,hA2,hl2,ho2,_,hin,hk,_⟩
 rw[yW] at hA2 hin hk
 have HO:=zqh (zvr r hA2 hin hk)
 have HFi:=zqh (zar.fine hA2)
 have HIn:=zqh hin
 have HKd:=zqh hk
 have HB2:Hid (Below w.heap.size w w2):=zqh (zc0 HB1.out ho2 HF1.out)
 have HF2:Hid (∀b,F2 b->w.heap.size<=b):=zqh (fun b q=>by
  rcases hl2 b q with q | q
  ·exact HF1.out b q
  ·exact qH HB1.out.size q)
 clear hA2 hl2 ho2 hin hk
 go_wp2_with fail
 refine HO.out.mono ?_
 rintro e w3 ⟨A3,n3,c3,f,m3,F3,rfl,hA3,hl3,ho3,hk3,hi3,hd3⟩
 have HB3:Hid (Below w.heap.size w w3):=zqh (zc0 HB2.out ho3 HF2.out)
 have HAc:=zqh (zln 0 hA3 hk3.here hi3 (by omega))
 rw[zta HFi.out HIn.out HKd.out (zbf.inF hi3) hd3] at HAc
 clear hA3 hl3 ho3 hk3 hi3 hd3 HO
 go_wp2_with fail
 refine HAc.out.mono ?_
 rintro e w4 ⟨rfl,hb4⟩
 have HB4:=zqh (HB3.out.trans (hb4.mono HB3.out.size))
 clear hb4
 go_wp2_with fail
 go_ret
 exact ⟨rfl,HB4.out⟩
theorem ztb:zm5 AA OkL where
 awake:=zqE
 formed:=fun h=>h.fm
 inF:=fun h=>zbf.inF h
 ofNo:=fun id h hi hn=>zvo id h hi hn
 of:=fun id h hi=>zvp id h hi
 next:=fun b bt h hk hf hb hbt=>zvq b bt h hk hf hb hbt
 accepts:=fun bt h hv hf hbt=>zln bt h hv hf hbt
end

section
open Go.RowKit
section
variable {H:Type} {enc:TypeId×Value->H} {P:Program} {w:World} {base:Nat} {spare:Nat->Bool} {held:Bool}
theorem zhp {T S L U I B:TypeId} {f0 f1 f2 f3 f4 f5:Field} (hT:P.underlying T=some (.struct #[f0,f1,f2,f3,f4,f5]))
  (e0:f0.type=I/\f0.offset=0) (e1:f1.type=S/\f1.offset=1) (e2:f2.type=L/\f2.offset=5) (e3:f3.type=I/\f3.offset=6) (e4:f4.type=I/\f4.offset=7) (e5:f5.type=B/\f5.offset=8)
  (hS:P.underlying S=some (.array 4 U)) (hU:P.underlying U=some (.int .u64)) (hL:P.underlying L=some (.slice T)) (hI:P.underlying I=some (.int .i64)) (hB:P.underlying B=some .bool)
  (cT:P.cellsOf T=9) (cS:P.cellsOf S=4) (cU:P.cellsOf U=1) (cL:P.cellsOf L=1) (cI:P.cellsOf I=1) (cB:P.cellsOf B=1) :
  ∀(fuel:Nat) (cs:List Value) (x:DataW H×List MemPlace),DataW.trod enc P w base spare held fuel T cs=some x->(∀q∈x.2,MemPlace.frozenIn w q=false)->∃t:Tr,Tr.Ins w fuel t/\cs=t.cs:=by
 intro fuel
 induction fuel using Nat.strongRecOn with
 | _ fuel ih =>
 intro cs x h hz
 obtain ⟨xs,m,rfl,hxe,hl,hxl,hf⟩:=DataW.trod_struct hT h
 rw[cT] at hl
 obtain ⟨c0,c1,c2,c3,c4,c5,c6,c7,c8,rfl⟩:∃c0 c1 c2 c3 c4 c5 c6 c7 c8,cs=[c0,c1,c2,c3,c4,c5,c6,c7,c8]:=by
  match cs,hl with
  | [c0,c1,c2,c3,c4,c5,c6,c7,c8],_=>exact ⟨_,_,_,_,_,_,_,_,_,rfl⟩
 have hx:∀i,i<6->∃y,xs[i]?=some y:=fun i hi=>⟨xs[i]'(by rw[hxl];exact hi),qI _⟩
 obtain ⟨y0,hy0⟩:=hx 0 (by omega)
 obtain ⟨y1,hy1⟩:=hx 1 (by omega)
 obtain ⟨y2,hy2⟩:=hx 2 (by omega)
 obtain ⟨y3,hy3⟩:=hx 3 (by omega)
 obtain ⟨y4,hy4⟩:=hx 4 (by omega)
 obtain ⟨y5,hy5⟩:=hx 5 (by omega)
 have t0:=hf 0 f0 rfl
 have t1:=hf 1 f1 rfl
 have t2:=hf 2 f2 rfl
 have t3:=hf 3 f3 rfl
 have t4:=hf 4 f4 rfl
 have t5:=hf 5 f5 rfl
 rw[e0.1,e0.2,cI,hy0] at t0
 rw[e1.1,e1.2,cS,hy1] at t1
 rw[e2.1,e2.2,cL,hy2] at t2
 rw[e3.1,e3.2,cI,hy3] at t3
 rw[e4.1,e4.2,cI,hy4] at t4
 rw[e5.1,e5.2,cB,hy5] at t5
 simp only[List.drop_zero,List.drop_succ_cons,List.take_succ_cons,List.take_zero] at t0 t1 t2 t3 t4 t5
 obtain ⟨kind,g0,_,w0⟩:=gP hI t0
 obtain ⟨s,hs,rfl,rfl,rfl,rfl⟩:=ziG hS hU cU t1
 obtain ⟨lo,g3,_,w3⟩:=gP hI t3
 obtain ⟨hi,g4,_,w4⟩:=gP hI t4
 obtain ⟨neg,g5,_⟩:=DataW.trod_bool hB t5
 injection g0 with g0 _
 injection g3 with g3 _
 injection g4 with g4 _
 injection g5 with g5 _
 subst g0 g3 g4 g5
 have hz2:∀q∈y2.2,MemPlace.frozenIn w q=false:=fun q hq=>hz q (by
  rw[hxe]
  exact List.mem_flatMap.2 ⟨y2,List.mem_of_getElem? hy2,hq⟩)
 rcases DataW.trod_slice hL t2 with ⟨hcs,_⟩ | ⟨a,len,cap,elems,rest,k,hmk,hcs,hye,_,hlc,hcm,hlen,hel,_,_⟩
 ·injection hcs with hcs _
  subst hcs
  exact ⟨.node kind s none 0 0 [] lo hi neg,⟨⟨⟨hs,zb7 w0,zb7 w3,zb7 w4⟩,⟨rfl,by show (0:Nat)<=_;omega⟩,fun h0=>absurd h0 (jM 0),fun j hj=>absurd hj (jD _)⟩,⟨fun h0=>absurd h0 (jM 0),fun p hp=>absurd hp xK⟩⟩,rfl⟩
 ·injection hcs with hcs _
  subst hcs
  have hmax:len<=9223372036854775807:=by unfold maxLen at hcm;omega
  by_cases hn:len=0
  ·subst hn
   exact ⟨.node kind s (some a) 0 cap [] lo hi neg,⟨⟨⟨hs,zb7 w0,zb7 w3,zb7 w4⟩,⟨rfl,by show (0:Nat)<=_;omega⟩,fun h0=>absurd h0 (jM 0),fun j hj=>absurd hj (jD _)⟩,⟨fun h0=>absurd h0 (jM 0),fun p hp=>absurd hp xK⟩⟩,rfl⟩
  have hcell:∀i,i<len->∃cs' y,y∈elems/\w.cells? base (a.add (i*P.cellsOf T)) (P.cellsOf T)=some cs'/\DataW.trod enc P w base spare held k T cs'=some y:=by
   intro i hi
   have h:=hel i hi
   rw[qI (by omega),Option.bind_eq_some_iff] at h
   obtain ⟨cs',h1,h2⟩:=h
   exact ⟨cs',_,qG (by omega),h1,h2⟩
  obtain ⟨b,off,spot⟩:=a
  have hspot:spot=none:=by
   obtain ⟨cs',_,_,hc,_⟩:=hcell 0 (by omega)
   rw[cT] at hc
   unfold World.cells? at hc
   split at hc
   ·have:=mapM_some_get hc 0 0 (by simp)
    cases hq:w.cell? ((({block:=b,off:=off,spot:=spot}:Addr).add (0*9)).add 0) with
    | none =>
     have hl9:cs'.length=9:=by simpa using mapM_some_length hc
     rw[hq,qI (by omega)] at this
     cases this
    | some v =>
     have:=World.cell?_spot hq
     simpa [Addr.add] using this
   ·cases hc
  subst hspot
  have each:∀i,i<len->∃t:Tr,Tr.Ins w m t/\w.rangeAt b (off+i*9) t.cs:=by
   intro i hi
   obtain ⟨cs',y,hy,hc,ht⟩:=hcell i hi
   rw[cT,zhv] at hc
   have hk:k<m+1:=by omega
   obtain ⟨t,hin,rfl⟩:=ih k hk cs' _ ht (fun q hq=>hz2 q (by rw[hye];exact yJ _ (List.mem_flatMap.2 ⟨y,jH _ hy,hq⟩)))
   refine ⟨t,?_,zhj hc⟩
   exact hin.upto (by omega)
  obtain ⟨f,hf'⟩:=Deep.choose_lt each
  refine ⟨.node kind s (some ⟨b,off,none⟩) len cap ((List.range len).map f) lo hi neg,⟨⟨⟨hs,zb7 w0,zb7 w3,zb7 w4⟩,⟨by show len=((List.range len).map f).length;simp,hmax⟩,fun h0=>⟨b,off,rfl,?_,?_⟩,?_⟩,⟨fun h0 b' off' e=>?_,fun p hp=>?_⟩⟩,rfl⟩
  ·have:=(hf' 0 h0).2 0 _ rfl
   exact block_lt_of_cell this
  ·intro j hj
   have hj':j<len:=by have:j<((List.range len).map f).length:=hj;simpa using this
   have h1:=(hf' j hj').2
   have e:=zcS f len j hj
   show w.rangeAt b (off+j*9) (((List.range len).map f)[j]'hj).cs
   rw[e];exact h1
  ·intro j hj
   have hj':j<len:=by have:j<((List.range len).map f).length:=hj;simpa using this
   have h1:=(hf' j hj').1
   have e:=zcS f len j hj
   show Tr.In w m (((List.range len).map f)[j]'hj)
   rw[e];exact h1.1
  ·have e':some (⟨b,off,none⟩:Addr)=some ⟨b',off',none⟩:=e
   injection e' with e'
   injection e' with e1 e2
   subst e1;subst e2
   have:=hz2 (.cell b off) (by
    rw[hye]
    refine jH _ ?_
    unfold MemPlace.row
    rw[yN]
    exact ⟨0,List.mem_range.2 (by rw[cT];omega),rfl⟩)
   exact this
  ·have hp':p∈(List.range len).map f:=hp
   rw[yN] at hp'
   obtain ⟨j,hj,rfl⟩:=hp'
   exact (hf' j (List.mem_range.1 hj)).1.2
theorem zqF {r:Reach} {b0:Nat} {T S L U I B:TypeId} {v:Value} {d:DataW H} {p:List MemPlace} {f0 f1 f2 f3 f4 f5:Field} (hT:P.underlying T=some (.struct #[f0,f1,f2,f3,f4,f5]))
  (e0:f0.type=I/\f0.offset=0) (e1:f1.type=S/\f1.offset=1) (e2:f2.type=L/\f2.offset=5) (e3:f3.type=I/\f3.offset=6) (e4:f4.type=I/\f4.offset=7) (e5:f5.type=B/\f5.offset=8)
  (hS:P.underlying S=some (.array 4 U)) (hU:P.underlying U=some (.int .u64)) (hL:P.underlying L=some (.slice T)) (hI:P.underlying I=some (.int .i64)) (hB:P.underlying B=some .bool)
  (cT:P.cellsOf T=9) (cS:P.cellsOf S=4) (cU:P.cellsOf U=1) (cL:P.cellsOf L=1) (cI:P.cellsOf I=1) (cB:P.cellsOf B=1)
  (hv:Value.okWide P w r b0 T v) (h:DataW.Trod enc P w base spare held T v d p) (hz:∀q∈p,MemPlace.frozenIn w q=false):∃(k:Nat) (t:Tr),Tr.Ins w k t/\v=.agg t.cs.toArray:=by
 obtain ⟨cs,rfl,hsz,_⟩:∃cs,v=.agg cs/\cs.size=P.cellsOf T/\Row.okWide P w r b0 T cs:=by
  simpa [Value.okWide,hT] using hv
 obtain ⟨fuel,hf⟩:=h
 obtain ⟨t,hin,e⟩:=zhp hT e0 e1 e2 e3 e4 e5 hS hU hL hI hB cT cS cU cL cI cB fuel _ _ hf hz
 refine ⟨fuel,t,hin,?_⟩
 rw[<-e]
 simp[Value.cells]
end
end
end Go.Proofs.YtdmodhnhldbpnaaGreat
