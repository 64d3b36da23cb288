/- Joined: FoLay, FoLib, FoD. -/
import Derived.Test.YtdmodhnhldbpnaaGreatProg
import Derived.Shelf.Sort.Plain
import Derived.Shelf.Slices.Equal
import Derived.Shelf.Slices.CompactI
import Derived.Shelf.Slices.SearchI
import Derived.Shelf.Slices.Cells
import Derived.Shelf.Slices.In.SortNone
import Derived.Shelf.Slices.Empties
import Derived.Shelf.Slices.Empties2
import Derived.Shelf.SlSortCmp.NoneTotal
import Derived.Test.YtdmodhnhldbpnaaGreatMbc
import Derived.Sort.OwnSortedInts
import Derived.Deep.MidRow
import Derived.Test.YtdmodhnhldbpnaaGreatAid
/- What of the library package formula calls, each one application of the shelf's contract. -/
set_option linter.unusedSimpArgs false
set_option linter.unusedVariables false
set_option maxHeartbeats 4000000
set_option maxRecDepth 100000
namespace Go.Proofs.YtdmodhnhldbpnaaGreat
section
open Go.Shelf Go.Proofs
def zf9:Go.Shelf.Ren:=⟨fun | 189=>105 | 125=>149 | 257=>148 | 128=>179 | 129=>180 | 294=>170 | 295=>171 | 296=>172 | 297=>173 | 298=>174 | 299=>175 | 216=>176 | 300=>177 | 301=>178 | 328=>199 | 329=>200 | 330=>201 | 331=>202 | 332=>203 | 215=>167 | 343=>212 | n=>n,fun | 28=>80 | 3=>3 | 46=>74 | 0=>0 | 51=>210 | 53=>44 | 4=>4 | 183=>204 | 182=>203 | 131=>96 | 5=>5 | 9=>9 | 218=>229 | 222=>233 | 228=>240 | 229=>241 | n=>n,fun | n=>n⟩
theorem zf2:Go.Proofs.Lays.n189 Tryz.prog zf9:={
 mixed:=by kernel_rfl
 f125:=Tryz.func149.trans (congrArg some (by kernel_rfl))
 f128:=Tryz.func179.trans (congrArg some (by kernel_rfl))
 f129:=Tryz.func180.trans (congrArg some (by kernel_rfl))
 f189:=Tryz.func105.trans (congrArg some (by kernel_rfl))
 f215:=Tryz.func167.trans (congrArg some (by kernel_rfl))
 f216:=Tryz.func176.trans (congrArg some (by kernel_rfl))
 f257:=Tryz.func148.trans (congrArg some (by kernel_rfl))
 f294:=Tryz.func170.trans (congrArg some (by kernel_rfl))
 f295:=Tryz.func171.trans (congrArg some (by kernel_rfl))
 f296:=Tryz.func172.trans (congrArg some (by kernel_rfl))
 f297:=Tryz.func173.trans (congrArg some (by kernel_rfl))
 f298:=Tryz.func174.trans (congrArg some (by kernel_rfl))
 f299:=Tryz.func175.trans (congrArg some (by kernel_rfl))
 f300:=Tryz.func177.trans (congrArg some (by kernel_rfl))
 f301:=Tryz.func178.trans (congrArg some (by kernel_rfl))
 f328:=Tryz.func199.trans (congrArg some (by kernel_rfl))
 f329:=Tryz.func200.trans (congrArg some (by kernel_rfl))
 f330:=Tryz.func201.trans (congrArg some (by kernel_rfl))
 f331:=Tryz.func202.trans (congrArg some (by kernel_rfl))
 f332:=Tryz.func203.trans (congrArg some (by kernel_rfl))
 f343:=Tryz.func212.trans (congrArg some (by kernel_rfl))
 t0:=Tryz.underlying0
 a0:=Tryz.isAgg0
 z0:=Tryz.sizeOf0
 v0:=Tryz.zeroValue0
 t3:=Tryz.underlying3
 a3:=Tryz.isAgg3
 z3:=Tryz.sizeOf3
 v3:=Tryz.zeroValue3
 t4:=Tryz.underlying4
 a4:=Tryz.isAgg4
 z4:=Tryz.sizeOf4
 v4:=Tryz.zeroValue4
 t5:=Tryz.underlying5
 a5:=Tryz.isAgg5
 z5:=Tryz.sizeOf5
 v5:=Tryz.zeroValue5
 t9:=Tryz.underlying9
 a9:=Tryz.isAgg9
 z9:=Tryz.sizeOf9
 v9:=Tryz.zeroValue9
 t28:=Tryz.underlying80
 a28:=Tryz.isAgg80
 z28:=Tryz.sizeOf80
 v28:=Tryz.zeroValue80
 t46:=Tryz.underlying74
 a46:=Tryz.isAgg74
 z46:=Tryz.sizeOf74
 v46:=Tryz.zeroValue74
 t51:=Tryz.underlying210
 a51:=Tryz.isAgg210
 z51:=Tryz.sizeOf210
 v51:=Tryz.zeroValue210
 t53:=Tryz.underlying44
 a53:=Tryz.isAgg44
 z53:=Tryz.sizeOf44
 v53:=Tryz.zeroValue44
 t131:=Tryz.underlying96
 a131:=Tryz.isAgg96
 z131:=Tryz.sizeOf96
 v131:=Tryz.zeroValue96
 t182:=Tryz.underlying203
 a182:=Tryz.isAgg203
 z182:=Tryz.sizeOf203
 v182:=Tryz.zeroValue203
 t183:=Tryz.underlying204
 a183:=Tryz.isAgg204
 z183:=Tryz.sizeOf204
 v183:=Tryz.zeroValue204
 t218:=Tryz.underlying229
 a218:=Tryz.isAgg229
 z218:=Tryz.sizeOf229
 v218:=Tryz.zeroValue229
 t222:=Tryz.underlying233
 a222:=Tryz.isAgg233
 z222:=Tryz.sizeOf233
 v222:=Tryz.zeroValue233
 t228:=Tryz.underlying240
 a228:=Tryz.isAgg240
 z228:=Tryz.sizeOf240
 v228:=Tryz.zeroValue240
 t229:=Tryz.underlying241
 a229:=Tryz.isAgg241
 z229:=Tryz.sizeOf241
 v229:=Tryz.zeroValue241}
open Go.Sort Go.RowKit in
theorem zek (blk off cap:Nat) (zs:List Int) (w:World) (hH:Holds (Value.int .i64) w blk off zs.toArray) (hblk:blk<w.heap.size) (hsz:zs.length<4611686018427387904) :
  Calls Tryz.prog 105 #[.slice (some ⟨blk,off,none⟩) zs.length cap] w fun e w' =>
   e=.returned (.tuple #[])/\∃n os,w'=grow (putRow (Value.int .i64) (Sort.ahead w n) blk off (zs.mergeSort fun x y=>decide (x<=y)).toArray) os:=Any.slices_Sort_int zf2 blk off cap zs w hH hblk hsz
def zg1:Go.Shelf.Ren:=⟨fun | 111=>143 | n=>n,fun | 28=>80 | 3=>3 | 4=>4 | 0=>0 | n=>n,fun | n=>n⟩
theorem zeG:Go.Proofs.Lays.n111 Tryz.prog zg1:={
 mixed:=by kernel_rfl
 f111:=Tryz.func143.trans (congrArg some (by kernel_rfl))
 t0:=Tryz.underlying0
 a0:=Tryz.isAgg0
 z0:=Tryz.sizeOf0
 v0:=Tryz.zeroValue0
 t3:=Tryz.underlying3
 a3:=Tryz.isAgg3
 z3:=Tryz.sizeOf3
 v3:=Tryz.zeroValue3
 t4:=Tryz.underlying4
 a4:=Tryz.isAgg4
 z4:=Tryz.sizeOf4
 v4:=Tryz.zeroValue4
 t28:=Tryz.underlying80
 a28:=Tryz.isAgg80
 z28:=Tryz.sizeOf80
 v28:=Tryz.zeroValue80}
open Go.RowKit Go.Lib in
theorem zel (b1 o1 n c b2 o2 m d:Nat) (xs ys:List Int) (w:World) (hx:n<=xs.length) (hy:m<=ys.length) (hbig:n<=9223372036854775807) (hbig2:m<=9223372036854775807) (hc1:∀j,j<xs.length->w.cell? ⟨b1,o1+j,none⟩=some (.int .i64 (xs.getD j 0))) (hc2:∀j,j<ys.length->w.cell? ⟨b2,o2+j,none⟩=some (.int .i64 (ys.getD j 0))) :
  Calls Tryz.prog 143 #[.slice (some ⟨b1,o1,none⟩) n c,.slice (some ⟨b2,o2,none⟩) m d] w fun e w'=>e=.returned (.bool (xs.take n==ys.take m))/\∃q,w'=w.drewN q:=Any.slices_Equal_int zeG b1 o1 n c b2 o2 m d xs ys w hx hy hbig hbig2 hc1 hc2
open Go.RowKit Go.Lib in
theorem zcP (a1 a2:Option Addr) (c m d:Nat) (w:World) (hbig2:m<=9223372036854775807) :
  Calls Tryz.prog 143 #[.slice a1 0 c,.slice a2 m d] w fun e w'=>e=.returned (.bool (decide (m=0)))/\w'=w:=Any.slices_Equal_int_empty zeG a1 a2 c m d w hbig2
def zfS:Go.Shelf.Ren:=⟨fun | 20=>109 | n=>n,fun | 22=>80 | 3=>3 | 4=>4 | 0=>0 | n=>n,fun | n=>n⟩
theorem zfo:Go.Proofs.Lays2.n20 Tryz.prog zfS:={
 mixed:=by kernel_rfl
 f20:=Tryz.func109.trans (congrArg some (by kernel_rfl))
 t0:=Tryz.underlying0
 a0:=Tryz.isAgg0
 z0:=Tryz.sizeOf0
 v0:=Tryz.zeroValue0
 t3:=Tryz.underlying3
 a3:=Tryz.isAgg3
 z3:=Tryz.sizeOf3
 v3:=Tryz.zeroValue3
 t4:=Tryz.underlying4
 a4:=Tryz.isAgg4
 z4:=Tryz.sizeOf4
 v4:=Tryz.zeroValue4
 t22:=Tryz.underlying80
 a22:=Tryz.isAgg80
 z22:=Tryz.sizeOf80
 v22:=Tryz.zeroValue80
 i3:=by kernel_rfl}
open Go.RowKit Go.Lib Go.Sort in
theorem zby (a:Option Addr) (cap:Nat) (w:World) :
  Calls Tryz.prog 109 #[.slice a 0 cap] w fun e w'=>e=.returned (.slice a 0 cap)/\w'=w:=Any.slices_Compact_int_empty zfo a cap w
def zfT:Go.Shelf.Ren:=⟨fun | 25=>198 | 31=>176 | 32=>211 | 37=>167 | n=>n,fun | 22=>80 | 3=>3 | 4=>4 | 40=>74 | 0=>0 | n=>n,fun | n=>n⟩
theorem zfp:Go.Proofs.Lays2.n25 Tryz.prog zfT:={
 mixed:=by kernel_rfl
 f25:=Tryz.func198.trans (congrArg some (by kernel_rfl))
 f31:=Tryz.func176.trans (congrArg some (by kernel_rfl))
 f32:=Tryz.func211.trans (congrArg some (by kernel_rfl))
 f37:=Tryz.func167.trans (congrArg some (by kernel_rfl))
 t0:=Tryz.underlying0
 a0:=Tryz.isAgg0
 z0:=Tryz.sizeOf0
 v0:=Tryz.zeroValue0
 t3:=Tryz.underlying3
 a3:=Tryz.isAgg3
 z3:=Tryz.sizeOf3
 v3:=Tryz.zeroValue3
 t4:=Tryz.underlying4
 a4:=Tryz.isAgg4
 z4:=Tryz.sizeOf4
 v4:=Tryz.zeroValue4
 t22:=Tryz.underlying80
 a22:=Tryz.isAgg80
 z22:=Tryz.sizeOf80
 v22:=Tryz.zeroValue80
 t40:=Tryz.underlying74
 a40:=Tryz.isAgg74
 z40:=Tryz.sizeOf74
 v40:=Tryz.zeroValue74}
open Go.RowKit Go.Lib in
theorem zcL (b off n c:Nat) (zs:List Int) (x:Int) (w:World) (hz:n<=zs.length) (hbig:n<4611686018427387904) (hc:∀j,j<zs.length->w.cell? ⟨b,off+j,none⟩=some (.int .i64 (zs.getD j 0))) (hs:(zs.take n).Pairwise (·<=·)) :
  Calls Tryz.prog 198 #[.slice (some ⟨b,off,none⟩) n c,.int .i64 x] w fun e w'=>e=.returned (.tuple #[.int .i64 ((zs.take n).countP (·<x):Nat),.bool ((zs.take n).contains x)])/\∃q,w'=w.drewN q:=Any.slices_BinarySearch_int zfp b off n c zs x w hz hbig hc hs
open Go.RowKit Go.Lib Go.Sort in
theorem zbz (b off n c:Nat) (zs:List Int) (w:World) (hz:n<=zs.length) (hbig:n<=9223372036854775807) (hcap:n<=c) (hc:∀j,j<zs.length->w.cell? ⟨b,off+j,none⟩=some (.int .i64 (zs.getD j 0))) (hf:∀j,j<n->w.frozen? ⟨b,off+j,none⟩=false) :
  Calls Tryz.prog 109 #[.slice (some ⟨b,off,none⟩) n c] w fun e w'=>e=.returned (.slice (some ⟨b,off,none⟩) (Lib.compact (zs.take n)).length c)/\∃q,w'=(w.drewN q).setCells b off ((Lib.compact (zs.take n)++List.replicate (n-(Lib.compact (zs.take n)).length) 0).map (Value.int .i64)):=Any.slices_Compact_int_cells zfo b off n c zs w hz hbig hcap hc hf
open Go.RowKit Go.Sort in
theorem zdd (p:Option Addr) (cap:Nat) (w:World) :
  Calls Tryz.prog 105 #[.slice p 0 cap] w fun e w'=>e=.returned (.tuple #[])/\w'=w:=Any.slices_Sort_int_none zf2 p cap w
open Go.RowKit Go.Lib in
theorem zcf (a:Option Addr) (c:Nat) (x:Int) (w:World) :
  Calls Tryz.prog 198 #[.slice a 0 c,.int .i64 x] w fun e w'=>e=.returned (.tuple #[.int .i64 0,.bool false])/\w'=w:=Any.slices_BinarySearch_int_empty zfp a c x w
open Go.RowKit Go.Lib in
theorem zc4 (a1 a2:Option Addr) (n c m d:Nat) (w:World) (hnm:n≠m) :
  Calls Tryz.prog 143 #[.slice a1 n c,.slice a2 m d] w fun e w'=>e=.returned (.bool false)/\w'=w:=Any.slices_Equal_int_lens zeG a1 a2 n c m d w hnm
def zdU:Go.Shelf.Ren:=⟨fun | 6=>139 | 15=>149 | 14=>168 | 28=>179 | 29=>180 | 20=>190 | 21=>191 | 22=>192 | 23=>193 | 24=>194 | 25=>195 | 26=>196 | 27=>197 | 46=>208 | 47=>200 | 48=>201 | 49=>209 | 50=>210 | 57=>214 | n=>n,fun | 22=>138 | 24=>171 | 25=>172 | 3=>3 | 39=>74 | 0=>0 | 53=>210 | 55=>44 | 4=>4 | 46=>204 | 45=>203 | 50=>96 | 5=>5 | 9=>9 | 66=>229 | 70=>233 | 76=>240 | 77=>241 | n=>n,fun | n=>n⟩
theorem zbN:Go.Proofs.SlLaysF0.n6 Tryz.prog zdU:={
 mixed:=by kernel_rfl
 f6:=⟨Tryz.f139.name,by decide,Tryz.func139.trans (congrArg some (by kernel_rfl))⟩
 f14:=⟨Tryz.f168.name,by decide,Tryz.func168.trans (congrArg some (by kernel_rfl))⟩
 f15:=Tryz.func149.trans (congrArg some (by kernel_rfl))
 f20:=⟨Tryz.f190.name,by decide,Tryz.func190.trans (congrArg some (by kernel_rfl))⟩
 f21:=⟨Tryz.f191.name,by decide,Tryz.func191.trans (congrArg some (by kernel_rfl))⟩
 f22:=⟨Tryz.f192.name,by decide,Tryz.func192.trans (congrArg some (by kernel_rfl))⟩
 f23:=⟨Tryz.f193.name,by decide,Tryz.func193.trans (congrArg some (by kernel_rfl))⟩
 f24:=⟨Tryz.f194.name,by decide,Tryz.func194.trans (congrArg some (by kernel_rfl))⟩
 f25:=⟨Tryz.f195.name,by decide,Tryz.func195.trans (congrArg some (by kernel_rfl))⟩
 f26:=⟨Tryz.f196.name,by decide,Tryz.func196.trans (congrArg some (by kernel_rfl))⟩
 f27:=⟨Tryz.f197.name,by decide,Tryz.func197.trans (congrArg some (by kernel_rfl))⟩
 f28:=Tryz.func179.trans (congrArg some (by kernel_rfl))
 f29:=Tryz.func180.trans (congrArg some (by kernel_rfl))
 f46:=⟨Tryz.f208.name,by decide,Tryz.func208.trans (congrArg some (by kernel_rfl))⟩
 f47:=Tryz.func200.trans (congrArg some (by kernel_rfl))
 f48:=Tryz.func201.trans (congrArg some (by kernel_rfl))
 f49:=⟨Tryz.f209.name,by decide,Tryz.func209.trans (congrArg some (by kernel_rfl))⟩
 f50:=⟨Tryz.f210.name,by decide,Tryz.func210.trans (congrArg some (by kernel_rfl))⟩
 f57:=⟨Tryz.f214.name,by decide,Tryz.func214.trans (congrArg some (by kernel_rfl))⟩
 t0:=Tryz.underlying0
 a0:=Tryz.isAgg0
 z0:=Tryz.sizeOf0
 v0:=Tryz.zeroValue0
 t3:=Tryz.underlying3
 a3:=Tryz.isAgg3
 z3:=Tryz.sizeOf3
 v3:=Tryz.zeroValue3
 t4:=Tryz.underlying4
 a4:=Tryz.isAgg4
 z4:=Tryz.sizeOf4
 v4:=Tryz.zeroValue4
 t5:=Tryz.underlying5
 a5:=Tryz.isAgg5
 z5:=Tryz.sizeOf5
 v5:=Tryz.zeroValue5
 t9:=Tryz.underlying9
 a9:=Tryz.isAgg9
 z9:=Tryz.sizeOf9
 v9:=Tryz.zeroValue9
 t22:=Tryz.underlying138
 a22:=Tryz.isAgg138
 z22:=Tryz.sizeOf138
 v22:=Tryz.zeroValue138
 t25:=Tryz.underlying172
 a25:=Tryz.isAgg172
 z25:=Tryz.sizeOf172
 v25:=Tryz.zeroValue172
 t39:=Tryz.underlying74
 a39:=Tryz.isAgg74
 z39:=Tryz.sizeOf74
 v39:=Tryz.zeroValue74
 t45:=Tryz.underlying203
 a45:=Tryz.isAgg203
 z45:=Tryz.sizeOf203
 v45:=Tryz.zeroValue203
 t46:=Tryz.underlying204
 a46:=Tryz.isAgg204
 z46:=Tryz.sizeOf204
 v46:=Tryz.zeroValue204
 t50:=Tryz.underlying96
 a50:=Tryz.isAgg96
 z50:=Tryz.sizeOf96
 v50:=Tryz.zeroValue96
 t53:=Tryz.underlying210
 a53:=Tryz.isAgg210
 z53:=Tryz.sizeOf210
 v53:=Tryz.zeroValue210
 t55:=Tryz.underlying44
 a55:=Tryz.isAgg44
 z55:=Tryz.sizeOf44
 v55:=Tryz.zeroValue44
 t66:=Tryz.underlying229
 a66:=Tryz.isAgg229
 z66:=Tryz.sizeOf229
 v66:=Tryz.zeroValue229
 t70:=Tryz.underlying233
 a70:=Tryz.isAgg233
 z70:=Tryz.sizeOf233
 v70:=Tryz.zeroValue233
 t76:=Tryz.underlying240
 a76:=Tryz.isAgg240
 z76:=Tryz.sizeOf240
 v76:=Tryz.zeroValue240
 t77:=Tryz.underlying241
 a77:=Tryz.isAgg241
 z77:=Tryz.sizeOf241
 v77:=Tryz.zeroValue241}
end

section
open Go.RowKit
theorem zg2 {w:World} {b off n c:Nat} {l:List Int} (h:zak w (.slice (some ⟨b,off,none⟩) n c) l):∀j,j<l.length->w.cell? ⟨b,off+j,none⟩=some (.int .i64 (l.getD j 0)):=fun j hj=>by
 obtain ⟨b',off',e,_,r⟩:=h.at j hj
 injection e with e
 injection e with e1 e2
 subst e1 e2
 rw[r];unfold zbi;rw[xJ]
theorem zg3 {w:World} {n c:Nat} {l:List Int} (h:zak w (.slice none n c) l):l=[]/\n=0:=by
 obtain rfl:=h.len
 by_cases h0:0<l.length
 ·obtain ⟨b,off,e,_⟩:=h.at 0 h0;cases e
 ·exact ⟨qU (by omega),by omega⟩
theorem zg4 {w:World} {a:Addr} {n c:Nat} {l:List Int} (h:zak w (.slice (some a) n c) l) (h0:0<l.length):∃b off,a=⟨b,off,none⟩:=by
 obtain ⟨b,off,e,_⟩:=h.at 0 h0
 injection e with e
 exact ⟨b,off,e⟩
theorem zsF (l:List Int) (A:Option Addr) (n c:Nat) (x:Int) (w:World) (h:zak w (.slice A n c) l) (hs:l.Pairwise (·<=·)) (hl:l.length<=4000000) :
  Calls Tryz.prog 198 #[.slice A n c,.int .i64 x] w fun e w'=>e=.returned (.tuple #[.int .i64 (l.countP (·<x):Nat),.bool (l.contains x)])/\∃q,w'=w.drewN q:=by
 obtain rfl:=h.len
 by_cases h0:0<l.length
 ·cases A with
  | none=>obtain ⟨rfl,_⟩:=zg3 h;exact absurd h0 (jM _)
  | some a =>
   obtain ⟨b,off,rfl⟩:=zg4 h h0
   have:=zcL b off l.length c l x w zqn (by omega) (zg2 h) (by rw[qQ];exact hs)
   rwa [qQ] at this
 ·obtain rfl:l=[]:=qU (by omega)
  refine (zcf A c x w).mono ?_
  rintro e w' ⟨rfl,rfl⟩
  exact ⟨rfl,0,rfl⟩
theorem zub (a b:List Int) (A B:Option Addr) (n c m d:Nat) (w:World) (h:zak w (.slice A n c) a) (h':zak w (.slice B m d) b) :
  Calls Tryz.prog 143 #[.slice A n c,.slice B m d] w fun e w'=>e=.returned (.bool (a==b))/\∃q,w'=w.drewN q:=by
 have hm:=h.max
 have hm':=h'.max
 obtain rfl:=h.len
 obtain rfl:=h'.len
 by_cases hl:a.length=b.length
 ·by_cases h0:0<a.length
  ·cases A with
   | none=>obtain ⟨rfl,_⟩:=zg3 h;exact absurd h0 (jM _)
   | some x =>
    obtain ⟨b1,o1,rfl⟩:=zg4 h h0
    cases B with
    | none=>obtain ⟨rfl,_⟩:=zg3 h';rw[hl] at h0;exact absurd h0 (jM _)
    | some y =>
     obtain ⟨b2,o2,rfl⟩:=zg4 h' (by omega)
     have:=zel b1 o1 a.length c b2 o2 b.length d a b w zqn zqn hm hm' (zg2 h) (zg2 h')
     rwa [qQ,qQ] at this
  ·obtain rfl:a=[]:=qU (by omega)
   obtain rfl:b=[]:=qU (by rw[<-hl];rfl)
   refine (zcP A B c 0 d w (by omega)).mono ?_
   rintro e w' ⟨rfl,rfl⟩
   exact ⟨rfl,0,rfl⟩
 ·refine (zc4 A B a.length c b.length d w hl).mono ?_
  rintro e w' ⟨rfl,rfl⟩
  refine ⟨?_,0,rfl⟩
  rw[show (a==b)=false from beq_eq_false_iff_ne.2 (fun e=>hl (by rw[e]))]
def zq9 (w:World) (base:Nat) (v:Value) (l:List Int):Prop:=w.ownsRow base 3 1 v l.length (l.map (Value.int .i64))
theorem zuc {w:World} {base:Nat} {v:Value} {l:List Int} (h:zq9 w base v l) (hl:l.length<=1000000000) :
  Calls Tryz.prog 105 #[v] w fun e w'=>e=.returned (.tuple #[])/\zq9 w' base v (l.mergeSort fun x y=>decide (x<=y))/\w.grownBy w' v.ownBlock:=by
 obtain ⟨h1,h2⟩:=id h
 have hz:l.length=0->l.mergeSort (fun x y=>decide (x<=y))=l:=fun h0=>by rw[qU h0];simp
 rcases h2 with ⟨rfl,hn⟩ | ⟨g,cap,cur,rfl,hbg,hc,r1,r2,r3,r4⟩
 ·refine (zdd none 0 w).mono ?_
  rintro e w' ⟨rfl,rfl⟩
  exact ⟨rfl,by rw[hz hn];exact h,⟨rfl,rfl,rfl,qL _,fun _ _ _=>rfl⟩⟩
 ·rw[Nat.mul_one] at r4
  have hg:g<w.heap.size:=(Array.getElem?_eq_some_iff.1 hc).1
  refine (zek g 0 cap l w (holds_of_blockI hc r4) hg (by omega)).mono ?_
  rintro e w' ⟨rfl,n,os,rfl⟩
  refine ⟨rfl,?_,grownBy_sortedI _⟩
  have:=ownsRow_sortedI (n:=n) (os:=os) (base:=base) (ss:=l) (ts:=l.mergeSort fun x y=>decide (x<=y)) (by simp) hbg hc r1 r2 r3
  unfold zq9
  rw[show (l.mergeSort fun x y=>decide (x<=y)).length=l.length by simp]
  exact this
theorem zcM (w:World) (g o q:Nat) (vs:List Value):w.grownBy ((w.drewN q).setCells g o vs) (some g):=by
 have key:∀(vs:List Value) (o:Nat) (w:World),(w.setCells g o vs).os=w.os/\(w.setCells g o vs).tape=w.tape/\(w.setCells g o vs).output=w.output/\(w.setCells g o vs).heap.size=w.heap.size/\∀k,k≠g->(w.setCells g o vs).heap[k]?=w.heap[k]?:=by
  intro vs
  induction vs with
  | nil=>intro o w;exact ⟨rfl,rfl,rfl,rfl,fun _ _=>rfl⟩
  | cons v r ih =>
   intro o w
   obtain ⟨a,b,c,d,e⟩:=ih (o+1) (w.setCell ⟨g,o,none⟩ v)
   exact ⟨a,b,c,d.trans (by simp[World.setCell]),fun k hk=>(e k hk).trans (jL w ⟨g,o,none⟩ v k hk)⟩
 obtain ⟨a,b,c,d,e⟩:=key vs o (w.drewN q)
 exact ⟨a,b,c,by rw[d];exact qL _,fun k hk hne=>e k (fun h=>hne (by rw[h]))⟩
theorem zqg {w:World} {base:Nat} {v:Value} {l:List Int} (h:zq9 w base v l) (hI:∀x∈l,IsI x) (hl:l.length<=1000000000) :
  Calls Tryz.prog 109 #[v] w fun e w'=>∃A c,e=.returned (.slice A (Lib.compact l).length c)/\zak w' (.slice A (Lib.compact l).length c) (Lib.compact l)/\(∀b off s,A=some ⟨b,off,s⟩->base<=b)/\w.grownBy w' v.ownBlock:=by
 obtain ⟨h1,h2⟩:=id h
 have hcl:=Lib.compact_length_le l
 have hmem:∀x∈Lib.compact l,x∈l:=by
  intro x hx
  unfold Lib.compact Lib.compactUpTo at hx
  obtain ⟨i,hi,rfl⟩:=List.mem_map.1 hx
  have hi':i<l.length:=List.mem_range.1 (List.mem_filter.1 hi).1
  rw[getElem!_pos l.toArray i (by simpa using hi')]
  simp
 rcases h2 with ⟨rfl,hn⟩ | ⟨g,cap,cur,rfl,hbg,hc,r1,r2,r3,r4⟩
 ·obtain rfl:l=[]:=qU hn
  refine (zby none 0 w).mono ?_
  rintro e w' ⟨rfl,rfl⟩
  exact ⟨none,0,rfl,⟨none,0,rfl,qL _,by omega,(fun x hx=>by cases hx),fun h=>absurd h (jM _)⟩,(fun b off s e=>by cases e),⟨rfl,rfl,rfl,qL _,fun _ _ _=>rfl⟩⟩
 ·have hg:g<w.heap.size:=(Array.getElem?_eq_some_iff.1 hc).1
  have hfree:∀j,w.frozen? ⟨g,j,none⟩=false:=fun j=>At.free (t:=3) (cs:=cur) hc j
  have hcell:∀j,j<l.length->w.cell? ⟨g,0+j,none⟩=some (.int .i64 (l.getD j 0)):=fun j hj=>by
   rw[yH,xZ h j (by omega),xC,xJ,qI hj];rfl
  have hL:=zbz g 0 l.length cap l w zqn (by omega) r1 hcell (fun j _=>hfree _)
  rw[qQ] at hL
  refine hL.mono ?_
  rintro e w' ⟨rfl,q,rfl⟩
  refine ⟨_,cap,rfl,⟨_,cap,rfl,by omega,by unfold maxLen at r2;omega,fun x hx=>hI x (hmem x hx),fun h0=>⟨g,0,rfl,?_,fun j hj=>?_⟩⟩,(fun b off s e=>by injection e with e;injection e with e1 _ _;rw[<-e1];exact hbg),zcM w g 0 q _⟩
  ·have:=(zcM w g 0 q ((Lib.compact l++List.replicate (l.length-(Lib.compact l).length) 0).map (Value.int .i64))).size
   omega
  ·have ht:(w.drewN q).there g 0 ((Lib.compact l++List.replicate (l.length-(Lib.compact l).length) 0).map (Value.int .i64)).length:=by
    intro j hj
    have hj':j<l.length:=by simp at hj;omega
    exact ⟨by rw[show (w.drewN q).cell? ⟨g,0+j,none⟩=w.cell? ⟨g,0+j,none⟩ from rfl,hcell j hj'];rfl,hfree _⟩
   refine World.rangeAt_setCells_same _ g 0 _ ht j _ ?_
   rw[xC,jP hj,qI hj,zay hj];rfl
end

section
open Go.RowKit
def zg5 (b a:List Int):Bool:=b.all (fun x=>a.contains x)
theorem zg6 {b a:List Int}:zg5 b a=true↔∀x∈b,x∈a:=by
 unfold zg5;rw[jJ];simp
theorem zmc {a:List Int} (ha:Up a) {x:Int} (hx:x∈a) :
  a.countP (·<x)<a.length/\∀y,x<y->(y∈a↔y∈a.drop (a.countP (·<x)+1)):=by
 induction a with
 | nil=>cases hx
 | cons z r ih =>
  unfold Up at ha
  rw[List.pairwise_cons] at ha
  by_cases hz:z<x
  ·have hxr:x∈r:=by
    rcases List.mem_cons.1 hx with h | h
    ·omega
    ·exact h
   obtain ⟨h1,h2⟩:=ih ha.2 hxr
   rw[List.countP_cons_of_pos (by simpa using hz)]
   refine ⟨by simp;omega,fun y hy=>?_⟩
   rw[List.drop_succ_cons,<-h2 y hy,kB]
   constructor
   ·rintro (h | h)
    ·omega
    ·exact h
   ·exact .inr
  ·have hzx:z=x:=by
    rcases List.mem_cons.1 hx with h | h
    ·exact h.symm
    ·have:=ha.1 x h;omega
   subst hzx
   have hc:r.countP (·<z)=0:=List.countP_eq_zero.2 (fun y hy=>by have:=ha.1 y hy;simp;omega)
   rw[List.countP_cons_of_neg (by simp),hc]
   refine ⟨by simp,fun y hy=>?_⟩
   rw[yH,List.drop_succ_cons,List.drop_zero,kB]
   constructor
   ·rintro (h | h)
    ·omega
    ·exact h
   ·exact .inr
theorem zjk {l:List Int} {f g:Int->Bool} (h:∀x∈l,f x=g x):l.all f=l.all g:=by
 induction l with
 | nil=>rfl
 | cons x r ih=>rw[yR,yR,h x (by simp),ih (fun y hy=>h y (by simp[hy]))]
theorem zn4 {a:List Int} (h:Up a) (k:Nat):Up (a.drop k):=kG (List.drop_sublist k a) h
theorem zn5 {w:World} {b off n c:Nat} {l:List Int} (h:zak w (.slice (some ⟨b,off,none⟩) n c) l) (k:Nat) (hk:k<=l.length):zak w (.slice (some ⟨b,off+k,none⟩) (l.length-k) (c-k)) (l.drop k):=by
 obtain ⟨A',c',e,h2,h3,h4,h5⟩:=h
 injection e with e1 _ e3
 subst e1 e3
 have hl:(l.drop k).length=l.length-k:=List.length_drop
 refine ⟨_,c-k,by rw[hl],by rw[hl];omega,by omega,fun x hx=>h4 x (List.mem_of_mem_drop hx),fun h0=>?_⟩
 rw[hl] at h0
 obtain ⟨b',off',e,hb,r⟩:=h5 (by omega)
 injection e with e
 injection e with e1 e2
 subst e1 e2
 refine ⟨b,off+k,rfl,hb,fun j hj=>?_⟩
 rw[hl] at hj
 have:=r (k+j) (by omega)
 rw[<-Nat.add_assoc] at this
 rw[this]
 congr 2
 unfold zbi
 rw[List.getElem?_drop]
theorem zmd {w:World} {b off n c:Nat} {l:List Int} (h:zak w (.slice (some ⟨b,off,none⟩) n c) l) (k:Nat) (hk:k<=n):zak w (.slice (if c=k then some ⟨b,off,none⟩ else some ⟨b,off+k,none⟩) (n-k) (c-k)) (l.drop k):=by
 obtain rfl:=h.len
 by_cases e:c=k
 ·have h3:l.drop k=[]:=by
   obtain ⟨_,_,e1,r1,_⟩:=h
   injection e1 with _ _ e3
   subst e3
   exact List.drop_eq_nil_of_le (by omega)
  rw[if_pos e,h3]
  have:l.length-k=0:=by
   obtain ⟨_,_,e1,r1,_⟩:=h
   injection e1 with _ _ e3
   subst e3
   omega
  rw[this]
  have hck:c-k=0:=by omega
  exact ⟨_,_,rfl,qK _,by omega,(fun x hx=>by cases hx),fun h0=>absurd h0 (jM _)⟩
 ·rw[if_neg e];exact zn5 h k hk
theorem zsG (a b:List Int) (A B:Option Addr) (n c m d:Nat) (w:World) (h:zak w (.slice A n c) a) (h':zak w (.slice B m d) b) (ha:Up a) (hb:Up b) (hl:a.length<=4000000) :
  Calls Tryz.prog 169 #[.slice A n c,.slice B m d] w fun e w'=>e=.returned (.bool (zg5 b a))/\∃q,w'=w.drewN q:=by
 have HI:=zqh h
 have HJ:=zqh h'
 have hm:=h.max
 have hm':=h'.max
 obtain rfl:=h.len
 obtain rfl:=h'.len
 have HA:=zqh ha
 have HB:=zqh hb
 have HL:=zqh hl
 clear h h' ha hb hl
 go_enter Tryz.func169,Tryz.ntmps169
 go_wp2_with fail
 go_loopw [0,11] (fun u v wr=>∃(i k:Nat) (A':Option Addr) (c' n':Nat) (q:Nat),i<=b.length/\v=.int .i64 i/\u=.slice A' n' c'/\wr=w.drewN q/\Hid (zak w (.slice A' n' c') (a.drop k))/\Hid (zg5 b a=(b.drop i).all (fun x=>(a.drop k).contains x))) (fun _ v _=>b.length-(intOf v).toNat)
 case atStart=>exact ⟨0,0,A,c,_,0,qK _,rfl,rfl,rfl,HI,zqh rfl⟩
 case round =>
  obtain ⟨i,k,A',c',n',q,hi,rfl,rfl,rfl,HK,HN⟩:=hrel
  by_cases hlt:i<b.length
  ·have h1:(0:Int)<=(i:Int):=by omega
   have h2:(i:Int)<(b.length:Int):=by omega
   obtain ⟨bb,ob,rfl,_,q1⟩:=HJ.out.at i hlt
   have hst:Hid (zg5 b a=((a.drop k).contains (zbi b i)&&(b.drop (i+1)).all (fun x=>(a.drop k).contains x))):=zqh (by rw[HN.out,zdn b i hlt];rfl)
   have hgt:Hid (∀y∈b.drop (i+1),zbi b i<y):=zqh (by
    have:=zn4 HB.out i
    rw[zdn b i hlt] at this
    exact (List.pairwise_cons.1 this).1)
   obtain ⟨x,hx⟩:∃x,zbi b i=x:=⟨_,rfl⟩
   rw[hx] at q1 hst hgt
   clear hx
   have hUk:=zn4 HA.out k
   have HUk:=zqh hUk
   have hle:Hid ((a.drop k).Pairwise (·<=·)):=zqh (hUk.imp (fun {p q} h=>by omega))
   have hlk:(a.drop k).length<=4000000:=by have:=HL.out;rw[List.length_drop];omega
   have HLk:=zqh hlk
   clear hUk hlk
   have q1':(w.drewN q).cell? ⟨bb,ob+i,none⟩=some (.int .i64 x):=q1
   go_wp2_with fail
   refine (zsF (a.drop k) A' n' c' x _ (HK.out.drewN q) hle.out HLk.out).mono ?_
   rintro e w3 ⟨rfl,q',rfl⟩
   obtain ⟨r,hr⟩:∃r,(a.drop k).contains x=r:=⟨_,rfl⟩
   obtain ⟨z,hz⟩:∃z,(a.drop k).countP (·<x)=z:=⟨_,rfl⟩
   have HR:=zqh hr
   have HZ:=zqh hz
   rw[hr,hz]
   clear hr hz
   cases r
   ·go_wp2_with fail
    go_ret
    exact ⟨by rw[hst.out,HR.out,yC];rfl,q+q',by first | rfl | rw[xB]⟩
   ·have hin:x∈a.drop k:=by have:=HR.out;simpa using this
    obtain ⟨f1,f2⟩:=zmc HUk.out hin
    rw[HZ.out] at f1 f2
    have hn':n'=(a.drop k).length:=HK.out.len
    obtain ⟨b4,o4,rfl,_⟩:=HK.out.at z f1
    have hcm:n'<=c'/\c'<=9223372036854775807:=by
     obtain ⟨_,_,e,r1,r2,_⟩:=HK.out
     injection e with _ _ e3
     subst e3
     omega
    have HF:=zqh f2
    have hz1:z+1<=n':=by omega
    have HN':=zqh hn'
    have hs:=zqh (zmd HK.out (z+1) (by omega))
    clear f1 f2 hn' hin
    obtain ⟨hc1,hc2⟩:=hcm
    have g1:(z:Int)+1<=(n':Int):=by omega
    have g2:(n':Int)<=(c':Int):=by omega
    go_wp2_with fail
    refine ⟨⟨i+1,k+(z+1),_,_,_,q+q',by omega,by go_num,rfl,by first | rfl | rw[xB],zqh (by rw[<-List.drop_drop];exact hs.out),zqh ?_⟩,by simp[intOf];omega⟩
    rw[hst.out,HR.out,jS,show a.drop (k+(z+1))=(a.drop k).drop (z+1) from List.drop_drop.symm]
    refine zjk (fun y hy=>?_)
    rw[qZ]
    simpa using HF.out y (hgt.out y hy)
  ·obtain rfl:i=b.length:=by omega
   go_wp2_with fail
   go_ret
   exact ⟨by rw[HN.out,kW];rfl,q,rfl⟩
theorem zqi {m m':Nat} {l l':List Int} (h:zcX m l) (h':zcX m' l') (hs:zg5 l l'=true):bits .andNot .u64 (m:Int) (m':Int)=0:=by
 rw[zjw m m' h.1 h'.1]
 have:m &&& (M64-m')=0:=by
  apply Nat.eq_of_testBit_eq
  intro i
  rw[Nat.testBit_and,Nat.zero_testBit,show M64-m'=2 ^ 64-(m'+1) by unfold M64;omega,Nat.testBit_two_pow_sub_succ h'.1]
  by_cases hi:i<64
  ·rw[h.2 i hi,h'.2 i hi]
   cases e:l.any (fun n=>n.toNat % 64==i)
   ·rfl
   ·obtain ⟨x,hx,ex⟩:=List.any_eq_true.1 e
    have:l'.any (fun n=>n.toNat % 64==i)=true:=List.any_eq_true.2 ⟨x,zg6.1 hs x hx,ex⟩
    rw[this];simp
  ·simp[hi]
 rw[this];rfl
theorem zg7 (p:Pt) (xs:List Pt) (A:Option Addr) (n c:Nat) (R:Nat->Prop) (w:World) (hp:zbB w R p) (h:zdC w (.slice A n c) xs) (hl:∀x∈p::xs,x.l.length<=4000000) :
  Calls Tryz.prog 144 #[.agg #[p.v,.int .u64 p.m],.slice A n c] w fun e w'=>e=.returned (.bool (xs.any (fun q=>zg5 q.l p.l)))/\Below w.heap.size w w':=by
 have HI:=zqh h
 have HP:=zqh hp
 obtain ⟨hm,hm2,hm3⟩:=h.max
 obtain rfl:=h.len
 have HL:=zqh hl
 have hB0:Below w.heap.size w (w.alloc (.cells #[p.v,.int .u64 p.m] 171)):=zqb
 have hA0:At (w.alloc (.cells #[p.v,.int .u64 p.m] 171)) w.heap.size 171 #[p.v,.int .u64 p.m]:=At.new _ _ _
 obtain ⟨Ap,cp,hv,_⟩:=hp.1
 obtain ⟨pv,hpv⟩:∃pv,p.v=pv:=⟨_,rfl⟩
 rw[hpv] at hv hB0 hA0 ⊢
 subst hv
 have HPv:=zqh hpv
 clear h hp hl hpv
 go_enter Tryz.func144,Tryz.ntmps144
 go_wp2_with fail
 generalize w.alloc (.cells #[.slice Ap p.l.length cp,.int .u64 p.m] 171)=W at hB0 hA0 ⊢
 go_loopw [9] (fun v wr=>∃(i:Nat),i<=xs.length/\v=.int .i64 i/\Hid (Below w.heap.size w wr)/\Hid (At wr w.heap.size 171 #[.slice Ap p.l.length cp,.int .u64 p.m])/\Hid ((xs.take i).any (fun q=>zg5 q.l p.l)=false)) (fun v _=>xs.length-(intOf v).toNat)
 case atStart=>exact ⟨0,qK _,rfl,zqh hB0,zqh hA0,zqh (by simp)⟩
 case round =>
  obtain ⟨i,hi,rfl,HB,HA,HN⟩:=hrel
  by_cases hlt:i<xs.length
  ·have h1:(0:Int)<=(i:Int):=by omega
   have h2:(i:Int)<(xs.length:Int):=by omega
   obtain ⟨g,x,rfl,_,hx,q0,q1,hxo⟩:=(HI.out.next HB.out).at i hlt
   have hst:=zew xs (fun q=>zg5 q.l p.l) i hlt
   rw[HN.out,gK,(List.getElem?_eq_some_iff.1 hx).2] at hst
   have hmem:x∈p::xs:=qX _ (by rw[<-(List.getElem?_eq_some_iff.1 hx).2];exact qG hlt)
   have HX:=zqh hxo
   have HM:=zqh hmem
   have HST:=zqh hst
   have HXi:=zqh hx
   obtain ⟨Ax,cx,hv,_⟩:=hxo.1
   obtain ⟨xv,hxv⟩:∃xv,x.v=xv:=⟨_,rfl⟩
   rw[hxv] at hv q0
   subst hv
   have HXv:=zqh hxv
   clear hst hxo hmem hx hxv
   have a0:=HA.out.cell 0
   have a1:=HA.out.cell 1
   have f0:=HA.out.free 0
   have f1:=HA.out.free 1
   have hsz:=HA.out.lt
   obtain ⟨z,hz⟩:∃z,bits .andNot .u64 (x.m:Int) (p.m:Int)=z:=⟨_,rfl⟩
   have HZ:=zqh hz
   have hB1:Hid (Below w.heap.size w (wr.alloc (.cells #[.slice Ax x.l.length cx,.int .u64 x.m] 171))):=zqh (HB.out.alloc HB.out.size _)
   by_cases hz0:z=0
   ·subst hz0
    go_wp2_with fail
    have i1:zak (wr.alloc (.cells #[.slice Ax x.l.length cx,.int .u64 x.m] 171)) (.slice Ap p.l.length cp) p.l:=by rw[<-HPv.out];exact HP.out.ints.next hB1.out
    have i2:zak (wr.alloc (.cells #[.slice Ax x.l.length cx,.int .u64 x.m] 171)) (.slice Ax x.l.length cx) x.l:=by rw[<-HXv.out];exact HX.out.ints.next (zqb)
    have hA1:=zqh (HA.out.alloc (.cells #[.slice Ax x.l.length cx,.int .u64 x.m] 171))
    clear a0 a1 f0 f1 q0 q1 hsz
    refine (zsG p.l x.l Ap Ax _ cp _ cx _ i1 i2 HP.out.2.1.1 HX.out.2.1.1 (HL.out _ (by simp))).mono ?_
    rintro e w3 ⟨rfl,q,rfl⟩
    obtain ⟨r,hr⟩:∃r,zg5 x.l p.l=r:=⟨_,rfl⟩
    have HR:=zqh hr
    rw[hr]
    clear hr i1 i2
    cases r
    ·go_wp2_with fail
     refine ⟨⟨i+1,by omega,by go_num,zqh (zcB hB1.out _),zqh (hA1.out.drewN _),zqh ?_⟩,by simp[intOf];omega⟩
     exact HST.out.trans HR.out
    ·go_wp2_with fail
     go_ret
     refine ⟨?_,zcB hB1.out _⟩
     rw[zmT hlt (g:=fun q=>zg5 q.l p.l) (by rw[(List.getElem?_eq_some_iff.1 HXi.out).2];exact HR.out)];rfl
   ·have hz1:(z==0)=false:=by simp[hz0]
    go_wp2_with fail
    refine ⟨⟨i+1,by omega,by go_num,hB1,zqh (HA.out.alloc _),zqh ?_⟩,by simp[intOf];omega⟩
    rw[HST.out,<-gQ]
    intro hs
    exact hz0 (by rw[<-HZ.out];exact zqi HX.out.2.2 HP.out.2.2 hs)
  ·obtain rfl:i=xs.length:=by omega
   go_wp2_with fail
   go_ret
   exact ⟨by have:=HN.out;rw[qQ] at this;rw[this];rfl,HB.out⟩
end
end Go.Proofs.YtdmodhnhldbpnaaGreat
