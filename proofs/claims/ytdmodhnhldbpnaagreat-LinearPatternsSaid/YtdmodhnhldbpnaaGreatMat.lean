/- Joined: GlRep, GlTimes. -/
import Derived.Test.YtdmodhnhldbpnaaGreatMar
import Derived.Shelf.Bits.Mul64
import Derived.Laws.CopyOwn
import Derived.Deep.QuietTactic
import Derived.Deep.RegionHeld3
import Derived.Test.YtdmodhnhldbpnaaGreatMac
import Derived.Maps.AppendAt
import Derived.Test.YtdmodhnhldbpnaaGreatAid
/- slices.Repeat of a list of one whole number. -/
set_option linter.unusedSimpArgs false
set_option linter.unusedVariables false
set_option maxHeartbeats 16000000
set_option maxRecDepth 100000
set_option linter.unusedSectionVars false
namespace Go.Proofs.YtdmodhnhldbpnaaGreat
section
open Go.Shelf
def zgQ:Go.Shelf.Ren:=⟨fun | 212=>166 | 263=>188 | 264=>189 | n=>n,fun | 46=>74 | 51=>210 | 146=>219 | 53=>44 | 148=>221 | n=>n,fun | n=>n⟩
theorem zj4:Go.Proofs.Lays.n212 Tryz.prog zgQ:={
 mixed:=by kernel_rfl
 f212:=Tryz.func166.trans (congrArg some (by kernel_rfl))
 f263:=Tryz.func188.trans (congrArg some (by kernel_rfl))
 f264:=Tryz.func189.trans (congrArg some (by kernel_rfl))
 t46:=Tryz.underlying74
 a46:=Tryz.isAgg74
 z46:=Tryz.sizeOf74
 v46:=Tryz.zeroValue74
 t51:=Tryz.underlying210
 a51:=Tryz.isAgg210
 z51:=Tryz.sizeOf210
 v51:=Tryz.zeroValue210
 t53:=Tryz.underlying44
 a53:=Tryz.isAgg44
 z53:=Tryz.sizeOf44
 v53:=Tryz.zeroValue44
 t146:=Tryz.underlying219
 a146:=Tryz.isAgg219
 z146:=Tryz.sizeOf219
 v146:=Tryz.zeroValue219
 t148:=Tryz.underlying221
 a148:=Tryz.isAgg221
 z148:=Tryz.sizeOf221
 v148:=Tryz.zeroValue221}
open Go.RowKit Go.Lib in
theorem zi5 (x y:Nat) (hx:x<18446744073709551616) (hy:y<18446744073709551616) (w:World) :
  Calls Tryz.prog 166 #[.int .u64 x,.int .u64 y] w fun e w'=>e=.returned (.tuple #[.int .u64 ((x*y / 18446744073709551616:Nat):Int),.int .u64 ((x*y % 18446744073709551616:Nat):Int)])/\w'=w:=Any.bits_Mul zj4 x y hx hy w
open Go.RowKit
def zhk (x:Int) (n m:Nat):List Value:=(List.replicate n x++List.replicate (m-n) 0).map (Value.int .i64)
theorem zkS (x:Int) (n m:Nat):(zhk x n m).toArray=ziy (List.replicate n x) m:=by unfold zhk ziy;rw[xP]
theorem zpI (x:Int) {n m:Nat} (h:n<=m):(zhk x n m).length=m:=by unfold zhk;simp;omega
theorem zpJ (x:Int) {n m j:Nat} (h:j<n):(zhk x n m)[j]?=some (.int .i64 x):=by
 unfold zhk
 rw[xC,jP (by simpa using h),List.getElem?_replicate,if_pos h];rfl
theorem zj5 (x:Int) {n m q:Nat} (h:n+q<=m):splice (zhk x n m) n (List.replicate q (.int .i64 x))=zhk x (n+q) m:=by
 have e1:(zhk x n m).take n=List.replicate n (.int .i64 x):=by unfold zhk;rw[<-List.map_take,List.take_left' (by simp)];simp
 have e2:(zhk x n m).drop (n+q)=List.replicate (m-(n+q)) (.int .i64 0):=by
  unfold zhk
  rw[<-List.map_drop,List.drop_append,List.drop_eq_nil_of_le (by simp),yW,List.drop_replicate,List.map_replicate,xP]
  congr 1;omega
 unfold splice
 rw[e1,xP,e2]
 unfold zhk
 rw[jE,List.map_replicate,List.map_replicate,<-jQ,List.replicate_append_replicate]
theorem zsd:(Tryz.prog.info? 3).map (·.size)=some 1:=by kernel_rfl
theorem zkT (x:Int) {W:World} {G n m q dLen dCap sLen sCap:Nat} {ad:Addr} (ty:TypeId) (h:At W G 3 (zhk x n m).toArray) (hq:q=Nat.min sLen dLen) (hnq:n+q<=m) (hsrc:∀j,j<q->W.cell? (ad.add j)=some (.int .i64 x)) :
  ∃w',(Builtin.copy_ #[80,80] ty #[.slice (some ⟨G,n,none⟩) dLen dCap,.slice (some ad) sLen sCap]).run Tryz.prog W=.ok (.int .i64 (q:Int)) w'/\At w' G 3 (zhk x (n+q) m).toArray/\∀B w0,Below B w0 W->B<=G->Below B w0 w':=by
 have hrun:=run_copy_row (P:=Tryz.prog) W 80 80 ty 3 G n dLen dCap ad sLen sCap (zhk x n m).toArray 3 (List.replicate q (.int .i64 x)) Tryz.underlying80 zsd h (by simpa using hq) (fun j v hv=>by
  rw[List.getElem?_replicate] at hv
  split at hv
  ·rename_i hj
   injection hv with hv
   subst hv
   exact hsrc j hj
  ·cases hv) (by rw[xP,qO,zpI x (by omega)];exact hnq) (fun v hv=>by rw[List.eq_of_mem_replicate hv];rfl)
 have e:=zj5 x hnq
 unfold splice at e
 rw[<-jQ] at e
 rw[xP] at hrun e
 rw[show (zhk x n m).toArray.toList=zhk x n m from rfl,e] at hrun
 exact ⟨_,hrun,At.row h _,fun B w0 hb hB=>zdD hb hB _⟩
theorem zse (x:Int) (m:Nat) (hm:m<=20) (b off c:Nat) (w:World) (hx:w.cell? ⟨b,off,none⟩=some (.int .i64 x)) (hb:b<w.heap.size) :
  Calls Tryz.prog 132 #[.slice (some ⟨b,off,none⟩) 1 c,.int .i64 (m:Int)] w fun e w'=>∃v',e=.returned v'/\zas w' w.heap.size v' (List.replicate m x)/\Below w.heap.size w w':=by
 have hMul:=zi5 1 m (by omega) (by omega) w
 rw[Nat.one_mul,Nat.div_eq_of_lt (by omega),Nat.mod_eq_of_lt (by omega)] at hMul
 have hMul:Calls Tryz.prog 166 #[.int .u64 1,.int .u64 (m:Int)] w fun e w'=>e=.returned (.tuple #[.int .u64 0,.int .u64 (m:Int)])/\w'=w:=hMul
 have HMul:=zqh hMul
 have hmk:=zkR m (by omega) w
 have h0:¬(m:Int)<0:=by omega
 have h0d:=qE h0
 have hu:IntKind.u64.wrap (m:Int)=(m:Int):=by rw[xY];omega
 have hi:IntKind.i64.wrap (m:Int)=(m:Int):=by rw[xX,xN _ (by omega)]
 have hg:¬(9223372036854775807:Int)<(m:Int):=by omega
 have hgd:=qE hg
 have HAt:Hid (At (w.alloc (.cells (ziy [] m) 3)) w.heap.size 3 (zhk x 0 m).toArray):=zqh (by rw[zkS];exact At.new _ _ _)
 have HBl:Hid (Below w.heap.size w (w.alloc (.cells (ziy [] m) 3))):=zqh (zqb)
 have HX:Hid ((w.alloc (.cells (ziy [] m) 3)).cell? ⟨b,off,none⟩=some (.int .i64 x)):=zqh ((yA (a:=⟨b,off,none⟩) (yL _ _ b hb)).trans hx)
 clear hMul hx
 go_enter Tryz.func132,Tryz.ntmps132
 go_wp2_with fail
 refine HMul.out.mono ?_
 rintro e w2 ⟨rfl,hw⟩
 obtain rfl:w=w2:=hw.symm
 obtain ⟨w4,hrun,hat,hbl⟩:=zkT x (dLen:=m) (dCap:=m) (sLen:=1) (sCap:=c) (ad:=⟨b,off,none⟩) (q:=Nat.min 1 m) 3 HAt.out rfl (by have:Nat.min 1 m<=m:=Nat.min_le_right _ _;omega) (fun j hj=>by
  have h1:Nat.min 1 m<=1:=Nat.min_le_left _ _
  obtain rfl:j=0:=by omega
  exact HX.out)
 rw[yH] at hat
 have HA4:=zqh hat
 have HB4:=zqh (hbl _ _ HBl.out zqn)
 clear hat hbl
 go_wp2_with fail
 have hq0:∀i j:Nat,i<j->True:=fun _ _ _=>trivial
 go_loopw [8] (fun y wr=>∃n:Nat,n<=m/\(n=0->m=0)/\y=.int .i64 (n:Int)/\Hid (At wr w.heap.size 3 (zhk x n m).toArray)/\Hid (Below w.heap.size w wr)) (fun y _=>m-(intOf y).toNat)
 case atStart=>exact ⟨Nat.min 1 m,Nat.min_le_right _ _,fun e=>by have:Nat.min 1 m=min 1 m:=rfl;omega,rfl,HA4,HB4⟩
 case round =>
  clear hrun
  obtain ⟨n,hn,hn0,rfl,HA,HB⟩:=hrel
  by_cases hlt:n<m
  ·have hnz:(0:Int)<=(n:Int):=by omega
   have hnm:(n:Int)<(m:Int):=by omega
   have hnm2:(n:Int)<=(m:Int):=by omega
   obtain ⟨q,hq⟩:∃q,q=Nat.min n (m-n):=⟨_,rfl⟩
   have hq1:1<=q/\n+q<=m/\q<=n:=by have:Nat.min n (m-n)=min n (m-n):=rfl;omega
   have hAd:At wr.drew w.heap.size 3 (zhk x n m).toArray:=HA.out
   obtain ⟨w5,hrun,hat,hbl⟩:=zkT x (dLen:=m-n) (dCap:=m-n) (sLen:=n) (sCap:=m) (ad:=⟨w.heap.size,0,none⟩) 3 hAd hq hq1.2.1 (fun j hj=>by
    have h1:=At.cell hAd j
    have e:(⟨w.heap.size,0,none⟩:Addr).add j=⟨w.heap.size,j,none⟩:=by simp[Addr.add]<;>omega
    rw[e,h1]
    have h2:=zpJ x (m:=m) (show j<n by omega)
    simpa using h2)
   have hne:¬m=n:=by omega
   have HA5:=zqh hat
   have HB5:=zqh (hbl _ _ (show Below w.heap.size w wr.drew from HB.out.drew) zqn)
   clear hat hbl hAd hq
   have hqw:IntKind.i64.wrap ((n:Int)+(q:Int))=((n+q:Nat):Int):=by rw[xX,xN _ (by omega)];omega
   go_wp2_with fail
   refine wp_region_noPanic ?_
   refine wp_region_held_drew (S:=(fun _=>True)) (by kernel_rfl) (by trivial) (fun hHeld=>?_)
   refine wpAnyH_take (i:=0) (oi:=⟨some 38,_,_,_,_,_⟩) (v:=?_) rfl (by kernel_rfl) (by kernel_rfl) (by kernel_rfl) (fun _ _ _ h=>h) (Or.inl ⟨by rfl,?_⟩) (by exact hHeld) ?_
   rotate_left
   ·(intro w hSw;(try dsimp only at hSw);go_simp;try (with_reducible rfl))
   simp only[Act.put,qA,qB,qC]
   refine wpAnyH_take (i:=1) (oi:=⟨some 39,_,_,_,_,_⟩) (v:=?_) rfl (by kernel_rfl) (by kernel_rfl) (by kernel_rfl) (fun _ _ _ h=>h) (Or.inl ⟨by rfl,?_⟩) (by exact hHeld) ?_
   rotate_left
   ·(intro w hSw;(try dsimp only at hSw);go_simp;try (with_reducible rfl))
   simp only[Act.put,qA,qB,qC]
   refine wpAnyH_take (i:=2) (oi:=⟨some 40,_,_,_,_,_⟩) (v:=?_) rfl (by kernel_rfl) (by kernel_rfl) (by kernel_rfl) (fun _ _ _ h=>h) (Or.inl ⟨by rfl,?_⟩) (by exact hHeld) ?_
   rotate_left
   ·(intro w hSw;(try dsimp only at hSw);go_simp;try (with_reducible rfl))
   simp only[Act.put,qA,qB,qC]
   refine wpAnyH_take (i:=3) (oi:=⟨some 41,_,_,_,_,_⟩) (v:=?_) rfl (by kernel_rfl) (by kernel_rfl) (by kernel_rfl) (fun _ _ _ h=>h) (Or.inl ⟨by rfl,?_⟩) (by exact hHeld) ?_
   rotate_left
   ·(intro w hSw;(try dsimp only at hSw);go_simp;try (with_reducible rfl))
   simp only[Act.put,qA,qB,qC]
   refine wpAnyH_take (i:=4) (oi:=⟨some 42,_,_,_,_,_⟩) (v:=?_) rfl (by kernel_rfl) (by kernel_rfl) (by kernel_rfl) (fun _ _ _ h=>h) (Or.inl ⟨by rfl,?_⟩) (by exact hHeld) ?_
   rotate_left
   ·(intro w hSw;(try dsimp only at hSw);go_simp;try (with_reducible rfl))
   simp only[Act.put,qA,qB,qC]
   refine wpAnyH_take (i:=5) (oi:=⟨some 43,_,_,_,_,_⟩) (v:=?_) rfl (by kernel_rfl) (by kernel_rfl) (by kernel_rfl) (fun _ _ _ h=>h) (Or.inl ⟨by rfl,?_⟩) (by exact hHeld) ?_
   rotate_left
   ·(intro w hSw;(try dsimp only at hSw);go_simp;try (with_reducible rfl))
   simp only[Act.put,qA,qB,qC]
   refine wpAnyH_take (i:=6) (oi:=⟨some 44,_,_,_,_,_⟩) (v:=?_) rfl (by kernel_rfl) (by kernel_rfl) (by kernel_rfl) (fun _ _ _ h=>h) (Or.inl ⟨by rfl,?_⟩) (by exact hHeld) ?_
   rotate_left
   ·(intro w hSw;(try dsimp only at hSw);go_simp;try (with_reducible rfl))
   simp only[Act.put,qA,qB,qC]
   refine wpAnyH_ready (rs:=[7]) (by kernel_rfl) (by simp) ?_
   refine AllReadyH.cons (o:=⟨some 45,_,_,_,_,_⟩) rfl (fun K hK=>?_) AllReadyH.nil
   go_simp
   refine hK.out _ _ ?_ (fun hHeld=>?_)
   ·trivial
   clear hK K
   try simp only[Act.put,qA,qB,qC]
   refine wpAnyH_take (i:=8) (oi:=⟨some 46,_,_,_,_,_⟩) (v:=?_) rfl (by kernel_rfl) (by kernel_rfl) (by kernel_rfl) (fun _ _ _ h=>h) (Or.inl ⟨by rfl,?_⟩) (by exact hHeld) ?_
   rotate_left
   ·(intro w hSw;(try dsimp only at hSw);go_simp;try (with_reducible rfl))
   simp only[Act.put,qA,qB,qC]
   refine wpAnyH_take (i:=9) (oi:=⟨some 8,_,_,_,_,_⟩) (v:=?_) rfl (by kernel_rfl) (by kernel_rfl) (by kernel_rfl) (fun _ _ _ h=>h) (Or.inl ⟨by rfl,?_⟩) (by exact hHeld) ?_
   rotate_left
   ·(intro w hSw;(try dsimp only at hSw);go_simp;try (with_reducible rfl))
   simp only[Act.put,qA,qB,qC]
   refine wpAnyH_done (by kernel_rfl) ?_ _
   refine NoPanic.normal ?_
   go_wp2_with fail
   exact ⟨⟨n+q,hq1.2.1,by omega,by go_num,HA5,HB5⟩,by simp[intOf]<;>omega⟩
  ·obtain rfl:n=m:=by omega
   go_wp2_with fail
   go_ret
   refine ⟨_,rfl,?_,HB.out⟩
   have h1:=HA.out
   rw[zkS] at h1
   have h2:=zkQ (xs:=List.replicate n x) (by rw[xP];exact h1) (by simp;omega)
   rw[xP] at h2
   exact h2
end

section
open Go.RowKit Go.Shelf
variable {D:List Nat->List Nat->Prop} {u:Value}
theorem zlY {w:World} {v:Value} {l:List Int} {B:Nat} (h:zas w B v l) (z:Int) (b:Nat) (hz:w.cell? ⟨b,0,none⟩=some (.int .i64 z)) (hl:l.length<=1000) (hB:B<=w.heap.size) :
  ∃v' w',(Builtin.append_ #[80,80] 80 #[v,.slice (some ⟨b,0,none⟩) 1 1]).run Tryz.prog w=.ok v' w'/\zas w' B v' (l++[z])/\w.grownBy w' v.ownBlock/\(v'.ownBlock=v.ownBlock\/v'.ownBlock=some w.heap.size):=by
 obtain ⟨i0,hi0,hi1,hi2,hi3⟩:=yZ zcJ
 obtain ⟨v',w',hr,q2,q3,_,q4⟩:=run_append_own_at (P:=Tryz.prog) w B 80 80 3 i0 _ 1 8 Tryz.underlying80 hi0 hi1 hi2 hi3 rfl (by omega) v l.length (idL l) h ⟨b,0,none⟩ 1 1 [.int .i64 z] rfl (fun j u hu=>by
  match j,hu with
  | 0,hu =>
   injection hu with hu
   subst hu
   exact hz) (fun u hu=>by rw[List.mem_singleton.1 hu];rfl) (by unfold maxLen;omega) (by omega) hB
 refine ⟨v',w',hr,?_,q3,q4⟩
 unfold zas idL
 unfold idL at q2
 simpa using q2
theorem zdA {P:Program} {w:World} {ops:Array Oper} {rest:List Oper} {o:Oper} {a:Act} {Q:Exit->Act->World->Prop} (hgd:o.guard=none) (d s:Operand) (dT sT:TypeId) (ho:o.op=.call {callee:=.builtin .append,args:=#[d,s],argTypes:=#[dT,sT]}) (v1 v2 v':Value) (w':World) (hd:a.eval d=v1) (hs:a.eval s=v2) (hrun:(Builtin.append_ #[dT,sT] o.type #[v1,v2]).run P w=.ok v' w') (h:wpList P ops Q rest (a.put o.dst v') w'):wpList P ops Q (o::rest) a w:=by
 refine wpList_plain hgd fun K hK=>?_
 unfold Oper.wp
 simp[execOp,ho,resolve,invoke,builtin,hd,hs,hrun,Result.andThen]
 exact hK _ _ h
section
variable {AA:World->Value->List Nd->(Nat->Prop)->Prop}
def znD (D:List Nat->List Nat->Prop) (AA:World->Value->List Nd->(Nat->Prop)->Prop):Prop:=∀{w:World} {a u:Value} {ns:List Nd} {F:Nat->Prop} {f:List Nat->Tbl} (g:Nat) (x lo hi:Int),AA w a ns F->BAt w g a u->¬F g->zij ns x->(x=-1\/zb4 D ns x f)->(0<=lo/\lo<=20/\(hi=-1\/(lo<=hi/\1<=hi/\hi<=20))) ->
 Calls Tryz.prog 90 #[.pointer (some ⟨g,0,none⟩),.int .i64 x,.int .i64 lo,.int .i64 hi] w (Got AA w a ns F fun ms r=>zb4 D ms r (fun l=>zcI (f l) (l.length+1) lo.toNat hi))
theorem zsf {ns ms:List Nd} {more:List Nd} (hm:ms=ns++more) (hfi:zaA ms) {x z r:Int} {lo:Nat} {f gz:List Nat->Tbl} (hx:zij ns x) (hz:zij ns z) (hf:x=-1\/zb4 D ns x f) (hg:z=-1\/zb4 D ns z gz) (h:zhE ms (List.replicate lo x++[z]) r):zb4 D ms r (fun l=>zlW (f l) (l.length+1) lo (gz l)):=by
 subst hm
 have hz2:zac (ns++more) z:=h.1 z (by simp)
 have hz3:zac ns z:=by
  rcases hz with e | hz
  ·exact absurd (e▸hz2) zeD
  ·exact hz
 have hg2:zb4 D (ns++more) z gz:=by
  rcases hg with e | hg
  ·exact absurd (e▸hz2) zeD
  ·exact hg.up hz3 more
 cases lo with
 | zero =>
  intro l bits hb hl hd
  refine (h.2 l bits).trans ?_
  show Eqv _ (zaF (zai l bits (ns++more) z) eqF (l.length+1)) (gz l)
  exact ((zbD (l.length+1) _).symm.trans (zdm (fun i j q=>zh5 hfi _ z zqn hz2 i j q))).trans (hg2 l bits hb hl hd)
 | succ lo =>
  have hx2:zac (ns++more) x:=h.1 x (by simp[kS])
  have hx3:zac ns x:=by
   rcases hx with e | hx
   ·exact absurd (e▸hx2) zeD
   ·exact hx
  rcases hf with e | hf
  ·exact absurd (e▸hx2) zeD
  ·exact ztR hfi h (hf.up hx3 more) hg2
theorem zsg {ns ms:List Nd} {more:List Nd} (hm:ms=ns++more) {x r:Int} {lo:Nat} {f:List Nat->Tbl} (hx:zij ns x) (hf:x=-1\/zb4 D ns x f) (hlo:1<=lo) (h:zhE ms (List.replicate lo x) r):zb4 D ms r (fun l=>zlW (f l) (l.length+1) lo eqF):=by
 subst hm
 obtain ⟨n,rfl⟩:∃n,lo=n+1:=⟨lo-1,by omega⟩
 have hx2:zac (ns++more) x:=h.1 x (by simp[kS])
 have hx3:zac ns x:=by
  rcases hx with e | hx
  ·exact absurd (e▸hx2) zeD
  ·exact hx
 rcases hf with e | hf
 ·exact absurd (e▸hx2) zeD
 ·exact ztS h (Or.inr (hf.up hx3 more))
theorem zvB (S:zaI AA) {w w2 w3:World} {a v:Value} {ns more1:List Nd} {F F1:Nat->Prop} {f gz:List Nat->Tbl} {g lo:Nat} {x z:Int} (hA:AA w a ns F) (hB2:Below w.heap.size w w2) (hw2:w.heap.size+1<=w2.heap.size) (hV:zas w2 (w.heap.size+1) v (List.replicate lo x)) (hb:BAt w g a u) (hgF:¬F g) (g1:AA w3 a (ns++more1) F1) (g2:∀b,F1 b->F b\/w2.heap.size<=b) (g3:OffF F w2 w3) (hx:zij ns x) (hz:zij (ns++more1) z) (hf:x=-1\/zb4 D ns x f) (hg:z=-1\/zb4 D (ns++more1) z gz) (hlo:lo<=20) :
  ∃v' w5,(Builtin.append_ #[80,80] 80 #[v,.slice (some ⟨w3.heap.size,0,none⟩) 1 1]).run Tryz.prog (w3.alloc (.cells #[.int .i64 z] 3))=.ok v' w5/\Calls Tryz.prog 85 #[.pointer (some ⟨g,0,none⟩),v'] w5 (Got AA w a ns F fun ms r=>zb4 D ms r (fun l=>zlW (f l) (l.length+1) lo (gz l))):=by
 have hFl:=S.low hA
 have hown:∀b,v.ownBlock=some b->w.heap.size<b/\b<w2.heap.size:=fun b e=>by have:=hV.lt e;omega
 have hvF:∀b,v.ownBlock=some b->¬F b:=fun b e q=>by have:=(hown b e).1;have:=hFl b q;omega
 have hvF1:∀b,v.ownBlock=some b->¬F1 b:=fun b e q=>by
  rcases g2 b q with q | q
  ·exact hvF b e q
  ·have:=(hown b e).2;omega
 have hlow:∀b,F1 b->F b\/w.heap.size<=b:=fun b q=>by
  rcases g2 b q with q | q
  ·exact Or.inl q
  ·exact Or.inr (qH hB2.size q)
 have hV3:=hV.off g3 (fun b q e=>hvF b e q)
 have hal:Below w3.heap.size w3 (w3.alloc (.cells #[.int .i64 z] 3)):=zqb
 have hs2:=hB2.size
 have hs3:=g3.size
 have hlb:=At.lt hb
 obtain ⟨v',w5,hrun,hv5,hgr,hat⟩:=zlY (hV3.next hal) z w3.heap.size ((At.new w3 3 #[.int .i64 z]).cell 0) (by simp;omega) (by
  rw[qV]
  omega)
 have ho3:OffF F w w3:=(OffF.of hB2).off g3 (fun b q=>Or.inl q)
 have ho5:OffF F w w5:=(ho3.then hal).grown hgr (fun b e=>Or.inr (by have:=(hown b e).1;omega))
 have hgF1:¬F1 g:=fun q=>by
  rcases hlow _ q with q | q
  ·exact hgF q
  ·omega
 have hA5:AA w5 a (ns++more1) F1:=S.keep (S.next g1 hal) (fun b q=>hgr.block b (by rw[qV];have:=S.low g1 b q;omega) (fun e=>hvF1 b e.symm q))
 have hll:(List.replicate lo x++[z]).length=lo+1:=by simp
 have hx1:=hx.up more1
 have hf1:x=-1\/zb4 D (ns++more1) x f:=by
  rcases hx with e | hx
  ·exact Or.inl e
  ·exact hf.imp id (fun q=>q.up hx more1)
 refine ⟨v',w5,hrun,(zr6 S g _ hA5 (hb.off hgF ho5) hgF1 hv5 (by rw[hll];omega) (fun b e q=>?_) (fun y hy=>?_) (by rw[hll];omega)).mono (fun _ _ q=>Got.seq hlow ho5 (q.mono (fun more r y hfi hi=>zsf rfl hfi hx1 hz hf1 hg y) S.toArenaMid))⟩
 ·rcases hat with y | y
  ·exact hvF1 b (y.symm.trans e) q
  ·rw[y] at e
   injection e with e
   have:=S.low g1 b q
   rw[qV] at e
   omega
 ·rcases List.mem_append.1 hy with hy | hy
  ·rw[List.eq_of_mem_replicate hy];exact hx1
  ·rw[List.mem_singleton.1 hy];exact hz
theorem zsh (S:zaI AA):znD D AA:=by
 intro w a u ns F f g x lo hi h hb hgF hx hf hlh
 obtain ⟨lo,rfl⟩:∃m:Nat,lo=(m:Int):=⟨lo.toNat,by omega⟩
 obtain ⟨w1,hw1⟩:∃w1,w1=w.alloc (.cells #[.int .i64 x] 3):=⟨_,rfl⟩
 have hs1:w1.heap.size=w.heap.size+1:=by rw[hw1];simp
 have hB1:Below w.heap.size w w1:=by rw[hw1];exact zqb
 have hRp:=zse x lo (by omega) w.heap.size 0 1 w1 (by rw[hw1];exact (At.new w 3 #[.int .i64 x]).cell 0) (by omega)
 have HRp:=zqh hRp
 have HW1:=zqh hw1
 rw[hw1] at HRp
 have hxI:I64 x:=hx.i64 (S.max h)
 obtain ⟨gp,rfl⟩:=S.ptr h
 have HA:=zqh h
 have HBa:=zqh hb
 have HgF:=zqh hgF
 have HX:=zqh hx
 have HTf:=zqh hf
 have HLh:=zqh hlh
 have HS1:=zqh hs1
 have HB1:=zqh hB1
 clear h hb hgF hx hf hs1 hB1 hw1 hRp
 go_enter Tryz.func90,Tryz.ntmps90
 go_wp2_with fail
 refine HRp.out.mono ?_
 rintro e w2 ⟨v,rfl,hv,hb2⟩
 have hb3:w1.heap.size<=w2.heap.size:=by rw[HW1.out];exact hb2.size
 have hb2:Below w.heap.size w w2:=by
  have h1:Below w1.heap.size w1 w2:=by rw[HW1.out];exact hb2
  exact HB1.out.trans (h1.mono HB1.out.size)
 have hv:zas w2 w1.heap.size v (List.replicate lo x):=by rw[HW1.out];exact hv
 have HV:=zqh hv
 have HVb:Hid (zas w2 (w.heap.size+1) v (List.replicate lo x)):=zqh (hv.base (by have:=HS1.out;omega))
 have HW2s:Hid (w.heap.size+1<=w2.heap.size):=zqh (by have:=hb3;have:=HS1.out;omega)
 have HB2:=zqh hb2
 have hA2:=S.next HA.out hb2
 have hBt2:BAt w2 g (.pointer (some ⟨gp,0,none⟩)) u:=(hb2.block g (At.lt HBa.out)).trans HBa.out
 have cb:w2.cell? ⟨g,0,none⟩=some (.pointer (some ⟨gp,0,none⟩)):=hBt2.cell 0
 have HOwn:Hid (∀b,v.ownBlock=some b->w.heap.size<b/\b<w2.heap.size):=zqh (fun b e=>by have:=hv.lt e;have:=HS1.out;omega)
 have HvF:Hid (∀b,v.ownBlock=some b->¬F b):=zqh (fun b e z=>by have:=(HOwn.out b e).1;have:=S.low HA.out b z;omega)
 have HBt2:=zqh hBt2
 have HA2:=zqh hA2
 have HgB:Hid (g<w.heap.size):=zqh (At.lt HBa.out)
 have hloz:(0:Int)<=(lo:Int):=by omega
 have hlo20:lo<=20:=by have:=HLh.out;omega
 have hlt:(List.replicate lo x).length=lo:=by simp
 clear hv hb2 hA2 hBt2
 by_cases hh:hi=-1
 ·subst hh
  have HSt:=zqh (ztV S.toArenaAny x HA2.out)
  go_wp2_with fail
  refine HSt.out.mono ?_
  rintro e w3 ⟨z,more1,F1,rfl,g1,g2,g3,g4⟩
  have hz4:zij (ns++more1) z:=g4.imp id (fun q=>q.1)
  have hzt:z=-1\/zb4 D (ns++more1) z (fun l=>zbp (f l) (l.length+1) (l.length+1)):=g4.imp id (fun q=>by
   have hx1:=q.2.1
   rcases HTf.out with e | ht
   ·exact absurd (e▸hx1) zeD
   ·exact zr2 (S.fine g1) (hx1.up more1) q.2.2 (ht.up hx1 more1))
  obtain ⟨v',w5,hrun,hct⟩:=zvB S HA.out HB2.out HW2s.out HVb.out HBa.out HgF.out g1 g2 g3 HX.out hz4 HTf.out hzt hlo20
  have HCt:=zqh hct
  have HRun:=zqh hrun
  clear hct hrun hz4 hzt g1 g2 g3 g4
  go_wp2_with (first | (at_builtin;refine zdA rfl _ _ _ _ rfl _ _ v' w5 rfl rfl HRun.out ?_) | fail)
  refine HCt.out.mono ?_
  rintro e w6 gg
  obtain ⟨r,_,_,rfl,_⟩:=id gg
  have HG:Hid (Got AA w (.pointer (some ⟨gp,0,none⟩)) ns F (fun ms r=>zb4 D ms r (fun l=>zcI (f l) (l.length+1) (lo:Int).toNat (-1))) (.returned (.int .i64 r)) w6):=zqh (gg.mono (fun more r q _ _ l bits hb hl hd=>(q l bits hb hl hd).trans (zlX (f l) (l.length+1) lo)) S.toArenaMid)
  clear gg
  go_wp2_with fail
  go_ret
  exact HG.out
 ·have hh2:(lo:Int)<=hi/\1<=hi/\hi<=20:=by have:=HLh.out;omega
  obtain ⟨hi,rfl⟩:∃m:Nat,hi=(m:Int):=⟨hi.toNat,by omega⟩
  have hhb:=(zab hh).1
  by_cases hlt2:lo<hi
  ·have hlt3:(lo:Int)<(hi:Int):=by omega
   have hw4:IntKind.i64.wrap ((hi:Int)-(lo:Int))=((hi-lo:Nat):Int):=by rw[xX,xN _ (by omega)];omega
   have HUp:=zqh (ztY S g (hi-lo) x HA2.out HBt2.out HgF.out HX.out HTf.out (by omega))
   have HLt:=zqh hlt2
   go_wp2_with fail
   refine HUp.out.mono ?_
   rintro e w3 ⟨z,more1,F1,rfl,g1,g2,g3,g4⟩
   obtain ⟨v',w5,hrun,hct⟩:=zvB S HA.out HB2.out HW2s.out HVb.out HBa.out HgF.out g1 g2 g3 HX.out (g4.imp id (fun q=>q.1)) HTf.out (g4.imp id (fun q=>q.2)) hlo20
   have HCt:=zqh hct
   have HRun:=zqh hrun
   clear hct hrun g1 g2 g3 g4
   go_wp2_with (first | (at_builtin;refine zdA rfl _ _ _ _ rfl _ _ v' w5 rfl rfl HRun.out ?_) | fail)
   refine HCt.out.mono ?_
   rintro e w6 gg
   obtain ⟨r,_,_,rfl,_⟩:=id gg
   have HG:Hid (Got AA w (.pointer (some ⟨gp,0,none⟩)) ns F (fun ms r=>zb4 D ms r (fun l=>zcI (f l) (l.length+1) (lo:Int).toNat (hi:Int))) (.returned (.int .i64 r)) w6):=zqh (gg.mono (fun more r q _ _ l bits hb hl hd=>by
    have h2:=zi2 (f l) (l.length+1) lo (hi-lo)
    refine (q l bits hb hl hd).trans ?_
    show Eqv _ _ (if ((hi:Nat):Int)<0 then _ else zmD (f l) (l.length+1) lo (((hi:Nat):Int).toNat-lo))
    rw[if_neg (by omega),show ((hi:Nat):Int).toNat-lo=hi-lo by omega]
    exact h2) S.toArenaMid)
   clear gg
   go_wp2_with fail
   go_ret
   exact HG.out
  ·obtain rfl:lo=hi:=by omega
   have hlt3:¬(lo:Int)<(lo:Int):=by omega
   have HLo:Hid (1<=lo):=zqh (by omega)
   have hll:(List.replicate lo x).length=lo:=by simp
   have HCt:=zqh ((zr6 S g _ HA2.out HBt2.out HgF.out HV.out (by rw[hll];exact HLo.out) HvF.out (fun y hy=>by rw[List.eq_of_mem_replicate hy];exact HX.out) (by rw[hll];omega)).mono (fun _ _ q=>Got.from (q.mono (R':=fun ms r=>zb4 D ms r (fun l=>zlW (f l) (l.length+1) lo eqF)) (fun more r y hfi hi=>zsg rfl HX.out HTf.out HLo.out y) S.toArenaMid) HB2.out))
   clear hll
   go_wp2_with fail
   refine HCt.out.mono ?_
   rintro e w6 gg
   obtain ⟨r,_,_,rfl,_⟩:=id gg
   have HG:Hid (Got AA w (.pointer (some ⟨gp,0,none⟩)) ns F (fun ms r=>zb4 D ms r (fun l=>zcI (f l) (l.length+1) (lo:Int).toNat (lo:Int))) (.returned (.int .i64 r)) w6):=zqh (gg.mono (fun more r q _ _ l bits hb hl hd=>by
    have h2:=zi2 (f l) (l.length+1) lo 0
    refine (q l bits hb hl hd).trans ?_
    show Eqv _ _ (if ((lo:Nat):Int)<0 then _ else zmD (f l) (l.length+1) lo (((lo:Nat):Int).toNat-lo))
    rw[if_neg (by omega),show ((lo:Nat):Int).toNat-lo=0 by omega]
    exact h2) S.toArenaMid)
   clear gg
   go_wp2_with fail
   go_ret
   exact HG.out
end
end
end Go.Proofs.YtdmodhnhldbpnaaGreat
