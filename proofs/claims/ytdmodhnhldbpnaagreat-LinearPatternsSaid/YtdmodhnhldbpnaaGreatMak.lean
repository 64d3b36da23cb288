/- Joined: GnPut, NormJoin, NormJoinM, LawLaws10, NormRow, SortLib, Backward, NormJoined. -/
import Derived.Test.YtdmodhnhldbpnaaGreatMai
import Derived.Test.YtdmodhnhldbpnaaGreatMaj
import Derived.Test.YtdmodhnhldbpnaaGreatMah
import Derived.Test.YtdmodhnhldbpnaaGreatMaf
import Derived.Maps.AppendAt
import Derived.Test.YtdmodhnhldbpnaaGreatProg
import Derived.Shelf.Sort.Plain
import Derived.Shelf.Slices.Clone
import Derived.Sort.OwnSortedInts
import Derived.RangeFuncNested
import Derived.RangeFuncBound
import Derived.RangeFuncCalls
import Derived.RangeFuncLeaves
import Derived.Shelf.Abstract
import Derived.WalkKit
import Derived.OwnWalkIn
import Derived.TacticsInMore
import Derived.LoopNIn
import Derived.LoopIn
import Derived.Test.YtdmodhnhldbpnaaGreatAid
/- norm's calls where an arena may get full, and nodes are any ones: put, None, Empty, Not. -/
set_option linter.unusedSimpArgs false
set_option linter.unusedVariables false
set_option maxHeartbeats 16000000
set_option maxRecDepth 100000
set_option linter.unusedSectionVars false
namespace Go.Proofs.YtdmodhnhldbpnaaGreat
section
open Go.RowKit
theorem zkE {w:World} {a v:Value} {ns:List Nd} {F:Nat->Prop} {g:Nat} {m:Option Nat} (x:Nd) (h:AT w a ns F g m v) (hx:zbQ x) (hn:¬ns.length<20000) (hrt:x.right ns.length=true) :
  Calls Tryz.prog 23 #[a,.agg x.cs.toArray] w fun e w'=>((zaM ns x<ns.length/\e=.returned (.tuple #[.int .i64 (zaM ns x:Int),.int .i64 0]))\/e=.returned (.tuple #[.int .i64 0,.int .i64 4]))/\Below w.heap.size w w':=by
 obtain rfl:=h.ptr
 obtain ⟨A,c,rfl⟩:=h.row.len
 have hA:At (w.alloc (Obj.cells x.cs.toArray 61)) w.heap.size 61 x.cs.toArray:=At.new _ _ _
 have hB:Below w.heap.size w (w.alloc (Obj.cells x.cs.toArray 61)):=zqb
 have HB:=zqh hB
 have HA:=zqh hA
 have HX:=zqh hx
 have HT:=zqh (h.next hB)
 have HR:Hid (Calls Tryz.prog 58 #[.pointer (some ⟨g,0,none⟩),.agg #[.int .i64 x.kind,.int .u64 x.set.w0,.int .u64 x.set.w1,.int .u64 x.set.w2,.int .u64 x.set.w3,.int .i64 x.a,.int .i64 x.b,.bool x.neg]] (w.alloc (Obj.cells x.cs.toArray 61)) fun e w'=>e=.returned (.bool (x.right ns.length))/\Below (w.alloc (Obj.cells x.cs.toArray 61)).heap.size (w.alloc (Obj.cells x.cs.toArray 61)) w'):=zqh (zjX x ⟨g,m,_,HT.out⟩)
 obtain ⟨z0,z1,z2,z3,z4,z5,z6,z7⟩:=Nd.cells hA
 have HN:=zqh hn
 clear h hx hA hB hn
 go_enter Tryz.func23,Tryz.ntmps23
 go_wp2_with fail
 refine HR.out.mono ?_
 rintro e w3 ⟨rfl,hb3⟩
 clear z0 z1 z2 z3 z4 z5 z6 z7
 have HA3:=zqh (HA.out.step hb3 rfl)
 have HB3:=zqh (HB.out.trans (hb3.mono HB.out.size))
 have HT3:=zqh (HT.out.next hb3)
 clear hb3
 obtain ⟨z0,z1,z2,z3,z4,z5,z6,z7⟩:=Nd.cells HA3.out
 have c0:=HT3.out.box.cell 0
 have c1:=HT3.out.box.cell 1
 rw[hrt]
 clear hrt
 have hlk:∀q,(Instr.lookup 67 (.map m) (.agg #[.int .i64 x.kind,.int .u64 x.set.w0,.int .u64 x.set.w1,.int .u64 x.set.w2,.int .u64 x.set.w3,.int .i64 x.a,.int .i64 x.b,.bool x.neg]) true).run Tryz.prog (w3.drewN q)=.ok (.tuple #[.int .i64 (if zaM ns x<ns.length then (zaM ns x:Int) else 0),.bool (decide (zaM ns x<ns.length))]) (w3.drewN q):=fun q=>zkB (w:=w3.drewN q) (by rcases HT3.out.ids with e | ⟨k,e,hk⟩;exact Or.inl e;exact Or.inr ⟨k,e,hk.kept rfl⟩) HX.out
 by_cases hlt:zaM ns x<ns.length
 ·rw[qD hlt,if_pos hlt] at hlk
  have HLt:=zqh hlt
  clear hlt
  go_wp2_with fail
  go_quiet (fail)
  go_wp2_with fail
  go_ret2
  exact ⟨Or.inl ⟨HLt.out,rfl⟩,zbc HB3.out _⟩
 ·rw[qE hlt,if_neg hlt] at hlk
  have hnm:(20000:Int)<=(ns.length:Int):=by have:=HN.out;omega
  have hnm2:decide ((20000:Int)<=(ns.length:Int))=true:=qD hnm
  clear hlt
  go_wp2_with fail
  go_quiet (fail)
  go_wp2_with fail
  go_ret2
  exact ⟨Or.inr rfl,zbc HB3.out _⟩
structure ArenaAny (AA:World->Value->List Nd->(Nat->Prop)->Prop):Prop extends ArenaMid AA where
 putFull:∀{w:World} {a:Value} {ns:List Nd} {F:Nat->Prop} (x:Nd),AA w a ns F->zbQ x->¬ns.length<20000->x.right ns.length=true->Calls Tryz.prog 23 #[a,.agg x.cs.toArray] w fun e w'=>((zaM ns x<ns.length/\e=.returned (.tuple #[.int .i64 (zaM ns x:Int),.int .i64 0]))\/e=.returned (.tuple #[.int .i64 0,.int .i64 4]))/\Below w.heap.size w w'
structure zaI (AA:World->Value->List Nd->(Nat->Prop)->Prop):Prop extends ArenaAny AA where
 part:∀{w:World} {a:Value} {ns:List Nd} {F:Nat->Prop},AA w a ns F->0<ns.length->∃(AB:World->Value->List Nd->(Nat->Prop)->Prop) (m:Nat),ArenaAny AB/\AB w a ns F/\m<w.heap.size/\(∀{w:World} {a:Value} {ns:List Nd} {F:Nat->Prop},AB w a ns F->AA w a ns F)/\(∀{w:World} {a:Value} {ns:List Nd} {F:Nat->Prop} {b:Nat} {o:Obj},AB w a ns F->F b->w.heap[b]?=some o->(∀cs t p,o≠.cells cs t p)->b=m)
theorem zvQ (m:Nat):ArenaAny (AM m) where
 toArenaMid:=zvH m
 putFull:=fun x h hx hn hr=>by obtain ⟨g,v,h⟩:=h;exact zkE x h hx hn hr
theorem zd9:ArenaAny AA where
 toArenaMid:=zar
 putFull:=fun x h hx hn hr=>by obtain ⟨g,m,v,h⟩:=h;exact zkE x h hx hn hr
theorem zia:zaI AA where
 toArenaAny:=zd9
 part:=fun {w a ns F} h h0=>by
  obtain ⟨g,m,v,h⟩:=h
  rcases id h.ids with ⟨_,q⟩ | ⟨k,rfl,hk⟩
  ·rw[q] at h0;exact absurd h0 (jM _)
  ·refine ⟨AM k,k,zvQ k,⟨g,v,h⟩,hk.lt,fun h=>h.aa,fun {w a ns F b o} h hb ho hn=>?_⟩
   obtain ⟨g,v,h⟩:=h
   rcases (h.own b).1 hb with rfl | q | q
   ·have:=h.box
    unfold At at this
    rw[this] at ho
    injection ho with ho
    exact absurd ho.symm (hn _ _ _)
   ·injection q with q;exact q.symm
   ·obtain ⟨_,r⟩:=id h.row
    rcases r with ⟨e,_⟩ | ⟨g',cap,cur,e,hbg,hc,_⟩
    ·rw[e] at q;cases q
    ·rw[e] at q
     injection q with q
     rw[<-q,hc] at ho
     injection ho with ho
     exact absurd ho.symm (hn _ _ _)
section
variable {AA:World->Value->List Nd->(Nat->Prop)->Prop}
def Got (AA:World->Value->List Nd->(Nat->Prop)->Prop) (w:World) (a:Value) (ns:List Nd) (F:Nat->Prop) (R:List Nd->Int->Prop) (e:Ending) (w':World):Prop :=
 ∃(r:Int) (more:List Nd) (F':Nat->Prop),e=.returned (.int .i64 r)/\AA w' a (ns++more) F'/\(∀b,F' b->F b\/w.heap.size<=b)/\OffF F w w'/\(r=-1\/(zac (ns++more) r/\R (ns++more) r))
theorem Got.from {w w1 w':World} {a:Value} {ns:List Nd} {F:Nat->Prop} {R:List Nd->Int->Prop} {e:Ending} (g:Got AA w1 a ns F R e w') (hb:Below w.heap.size w w1):Got AA w a ns F R e w':=by
 obtain ⟨r,more,F',g0,g1,g2,g3,g4⟩:=g
 refine ⟨r,more,F',g0,g1,fun b q=>?_,(OffF.of hb).off g3 (fun b q=>Or.inl q),g4⟩
 rcases g2 b q with q | q
 ·exact Or.inl q
 ·exact Or.inr (qH hb.size q)
theorem Got.mono {w w':World} {a:Value} {ns:List Nd} {F:Nat->Prop} {R R':List Nd->Int->Prop} {e:Ending} (g:Got AA w a ns F R e w') (hr:∀more r,R (ns++more) r->zaA (ns++more)->zac (ns++more) r->R' (ns++more) r) (S:ArenaMid AA):Got AA w a ns F R' e w':=by
 obtain ⟨r,more,F',g0,g1,g2,g3,g4⟩:=g
 exact ⟨r,more,F',g0,g1,g2,g3,g4.imp id (fun q=>⟨q.1,hr more r q.2 (S.fine g1) q.1⟩)⟩
theorem Got.seq {w w1 w':World} {a:Value} {ns more:List Nd} {F F1:Nat->Prop} {R:List Nd->Int->Prop} {e:Ending} (h2:∀b,F1 b->F b\/w.heap.size<=b) (h3:OffF F w w1) (g:Got AA w1 a (ns++more) F1 R e w'):Got AA w a ns F R e w':=by
 obtain ⟨r,more2,F',g0,g1,g2,g3,g4⟩:=g
 rw[jQ] at g1 g4
 refine ⟨r,more++more2,F',g0,g1,fun b q=>?_,h3.off g3 h2,g4⟩
 rcases g2 b q with q | q
 ·exact h2 b q
 ·exact Or.inr (qH h3.size q)
theorem Got.stay {w w':World} {a:Value} {ns:List Nd} {F:Nat->Prop} {R:List Nd->Int->Prop} {r:Int} (S:ArenaMid AA) (h:AA w a ns F) (hb:Below w.heap.size w w') (hr:zac ns r) (hR:R ns r):Got AA w a ns F R (.returned (.int .i64 r)) w' :=
 ⟨r,[],F,rfl,by rw[jA];exact S.next h hb,fun b q=>Or.inl q,OffF.of hb,Or.inr (by rw[jA];exact ⟨hr,hR⟩)⟩
theorem Got.no {w w':World} {a:Value} {ns:List Nd} {F:Nat->Prop} {R:List Nd->Int->Prop} (S:ArenaMid AA) (h:AA w a ns F) (hb:Below w.heap.size w w'):Got AA w a ns F R (.returned (.int .i64 (-1))) w' :=
 ⟨-1,[],F,rfl,by rw[jA];exact S.next h hb,fun b q=>Or.inl q,OffF.of hb,Or.inl rfl⟩
theorem zkF {ns:List Nd} {x:Nd} (hr:x.right ns.length=true) (h:zaM ns x<ns.length):zaQ ns (zaM ns x)=x:=by
 obtain ⟨_,p2⟩:=zm9 (ns:=ns) hr
 have hps:zdI ns x=ns:=by unfold zdI;rw[if_pos hr,if_pos h]
 rw[hps] at p2;exact p2
theorem zqQ (S:ArenaAny AA) {w:World} {a:Value} {ns:List Nd} {F:Nat->Prop} (x:Nd) (h:AA w a ns F) (hx:zbQ x) (hr:x.right ns.length=true) :
  Calls Tryz.prog 57 #[a,.agg x.cs.toArray] w (Got AA w a ns F fun ms r=>zaQ ms r.toNat=x):=by
 by_cases hroom:ns.length<20000
 ·refine (zni S.toArenaMid x h hx hroom).mono ?_
  rintro e w1 ⟨F',rfl,hA1,hF1,ho1⟩
  have hid:zqM ns x=(zaM ns x:Int):=by unfold zqM zdJ;rw[if_pos hr,if_pos hr]
  rw[hid]
  obtain ⟨p1,p2⟩:=zm9 (ns:=ns) hr
  by_cases hlt:zaM ns x<ns.length
  ·have hps:zdI ns x=ns:=by unfold zdI;rw[if_pos hr,if_pos hlt]
   rw[hps] at hA1 p2
   exact ⟨_,[],F',rfl,by rw[jA];exact hA1,hF1,ho1,Or.inr (by rw[jA];exact ⟨by unfold zac;omega,by show zaQ _ (Int.toNat _)=x;rw[xO];exact p2⟩)⟩
  ·have hps:zdI ns x=ns++[x]:=by unfold zdI;rw[if_pos hr,if_neg hlt]
   have hfe:zaM ns x=ns.length:=by have:=ze4 ns x;omega
   rw[hps] at hA1 p2
   exact ⟨_,[x],F',rfl,hA1,hF1,ho1,Or.inr ⟨by unfold zac;rw[qF,hfe];simp;omega,by show zaQ _ (Int.toNat _)=x;rw[xO];exact p2⟩⟩
 ·have HB:Hid (Below w.heap.size w (w.alloc (.cells x.cs.toArray 61))):=zqh (zqb)
  obtain ⟨c0,c1,c2,c3,c4,c5,c6,c7⟩:=Nd.cells (At.new w 61 x.cs.toArray)
  have HP:Hid (Calls Tryz.prog 23 #[a,.agg #[.int .i64 x.kind,.int .u64 x.set.w0,.int .u64 x.set.w1,.int .u64 x.set.w2,.int .u64 x.set.w3,.int .i64 x.a,.int .i64 x.b,.bool x.neg]] (w.alloc (.cells x.cs.toArray 61)) fun e w'=>((zaM ns x<ns.length/\e=.returned (.tuple #[.int .i64 (zaM ns x:Int),.int .i64 0]))\/e=.returned (.tuple #[.int .i64 0,.int .i64 4]))/\Below (w.alloc (.cells x.cs.toArray 61)).heap.size (w.alloc (.cells x.cs.toArray 61)) w'):=zqh (S.putFull x (S.next h HB.out) hx hroom hr)
  have HA:=zqh h
  have HR:=zqh hr
  clear h hx hr hroom
  go_enter Tryz.func57,Tryz.ntmps57
  go_wp2_with fail
  refine HP.out.mono ?_
  rintro e w1 ⟨he,hb⟩
  have HB1:=zqh (HB.out.trans (hb.mono HB.out.size))
  clear hb
  rcases he with ⟨hlt,rfl⟩ | rfl
  ·have HLt:=zqh hlt
   clear hlt
   go_wp2_with fail
   go_ret
   exact Got.stay S.toArenaMid HA.out HB1.out (by have:=HLt.out;unfold zac;omega) (by show zaQ _ (Int.toNat _)=x;rw[xO];exact zkF HR.out HLt.out)
  ·go_wp2_with fail
   go_ret
   exact Got.no S.toArenaMid HA.out HB1.out
theorem znl (S:ArenaAny AA) {w:World} {a:Value} {ns:List Nd} {F:Nat->Prop} (h:AA w a ns F):Calls Tryz.prog 83 #[a] w (Got AA w a ns F fun ms r=>kd ms r=0):=by
 have HP:=zqh (zqQ S ⟨0,zbn,0,0,false⟩ h (zcb _ _ _ _ (by unfold I64;omega) (by unfold I64;omega) (by unfold I64;omega)) (by unfold Nd.right;rw[if_pos (Or.inl rfl)];exact Nd.eqb_self _))
 clear h
 go_enter Tryz.func83,Tryz.ntmps83
 go_wp2_with fail
 refine HP.out.mono ?_
 rintro e w1 g
 obtain ⟨r,_,_,rfl,_⟩:=id g
 have HG:=zqh (g.mono (R':=fun ms r=>kd ms r=0) (fun more r q _ _=>by unfold kd;rw[q]) S.toArenaMid)
 clear g
 go_wp2_with fail
 go_ret
 exact HG.out
theorem ziX (S:ArenaAny AA) {w:World} {a:Value} {ns:List Nd} {F:Nat->Prop} (h:AA w a ns F):Calls Tryz.prog 22 #[a] w (Got AA w a ns F fun ms r=>kd ms r=1):=by
 have HP:=zqh (zqQ S ⟨1,zbn,0,0,false⟩ h (zcb _ _ _ _ (by unfold I64;omega) (by unfold I64;omega) (by unfold I64;omega)) (by unfold Nd.right;rw[if_pos (Or.inr rfl)];exact Nd.eqb_self _))
 clear h
 go_enter Tryz.func22,Tryz.ntmps22
 go_wp2_with fail
 refine HP.out.mono ?_
 rintro e w1 g
 obtain ⟨r,_,_,rfl,_⟩:=id g
 have HG:=zqh (g.mono (R':=fun ms r=>kd ms r=1) (fun more r q _ _=>by unfold kd;rw[q]) S.toArenaMid)
 clear g
 go_wp2_with fail
 go_ret
 exact HG.out
theorem zuW (S:ArenaAny AA) {w:World} {a:Value} {ns:List Nd} {F:Nat->Prop} (x:Int) (h:AA w a ns F) (hx:zac ns x):Calls Tryz.prog 89 #[a,.int .i64 x] w (Got AA w a ns F fun ms r=>zqH ms x r):=by
 have hmx:=S.max h
 have HA:=zqh h
 have HFi:=zqh (S.fine h)
 have HX:=zqh hx
 have hxI:I64 x:=by unfold zac at hx;unfold I64;omega
 have HN:=zqh (S.nodeIn x h hxI)
 have hdec:decide (0<=x/\x<(ns.length:Int))=true:=qD hx
 clear h hx
 go_enter Tryz.func89,Tryz.ntmps89
 go_wp2_with fail
 refine HN.out.mono ?_
 rintro e w1 ⟨y,rfl,hy,hb1⟩
 have hy:=hy HX.out
 rw[hdec]
 have HB1:=zqh hb1
 have HK:Hid (kd ns x=y.kind/\ka ns x=y.a):=zqh ⟨by unfold kd;rw[<-hy],by unfold ka;rw[<-hy]⟩
 have hone:=Nd.one y
 have HXb:=zqh (zbq w1 y)
 have HBb:=zqh (HB1.out.trans ((zaN w1 y).mono HB1.out.size))
 have ck:=(Nd.cells HXb.out).1
 have c5:=(Nd.cells HXb.out).2.2.2.2.2.1
 clear hy hb1
 by_cases hk:y.kind=6
 ·have HG:Hid (Got AA w a ns F (fun ms r=>zqH ms x r) (.returned (.int .i64 y.a)) (zaD w1 y)):=zqh (by
   have k6:kd ns x=6:=by rw[HK.out.1,hk]
   have ia:=(zbT HFi.out HX.out (Or.inl k6)).1
   rw[HK.out.2] at ia
   exact Got.stay S.toArenaMid HA.out HBb.out ia ⟨ia,fun _=>HK.out.2.symm,fun q=>absurd k6 q⟩)
  rw[hk] at ck
  clear hk
  go_wp2_with (first
   |(with_reducible show wpList _ _ _ (⟨none,.store _ _ _,_,_,_,_⟩::_) _ _
     refine qN rfl 61 _ _ rfl w1.heap.size y.cs.toArray rfl rfl 61 Nd.zero.cs.toArray (At.new _ _ _) (by kernel_rfl) rfl hone ?_
     first | change wpList _ _ _ _ _ (zaD w1 y) | change Exit.then _ _ _ _ (zaD w1 y))
   | fail)
  go_ret
  exact HG.out
 ·have HP:=zqh (zqQ S ⟨6,zbn,x,0,false⟩ (S.next HA.out HBb.out) (zcb _ _ _ _ (by unfold I64;omega) hxI (by unfold I64;omega)) (zhz (Or.inl rfl) HX.out))
  have hkb:=(zab hk).1
  have HKn:=zqh hk
  clear hk
  go_wp2_with (first
   |(with_reducible show wpList _ _ _ (⟨none,.store _ _ _,_,_,_,_⟩::_) _ _
     refine qN rfl 61 _ _ rfl w1.heap.size y.cs.toArray rfl rfl 61 Nd.zero.cs.toArray (At.new _ _ _) (by kernel_rfl) rfl hone ?_
     first | change wpList _ _ _ _ _ (zaD w1 y) | change Exit.then _ _ _ _ (zaD w1 y))
   | fail)
  refine HP.out.mono ?_
  rintro e w2 g
  obtain ⟨r,_,_,rfl,_⟩:=id g
  have HG:Hid (Got AA w a ns F (fun ms r=>zqH ms x r) (.returned (.int .i64 r)) w2):=zqh ((g.from HBb.out).mono (fun more r q _ hi=>⟨hi,fun q6=>by rw[zbt HX.out,HK.out.1] at q6;exact absurd q6 HKn.out,fun _=>⟨by unfold kd;rw[q],by unfold ka;rw[q]⟩⟩) S.toArenaMid)
  clear g
  go_wp2_with fail
  go_ret
  exact HG.out
end
end

section
open Go.RowKit
section
variable {ns:List Nd} (hc:Canon ns) {k:Int} (hk:k=4\/k=5)
include hc hk
end
end

section
open Go.RowKit
section
variable {ns:List Nd} (hc:Canon ns) {k:Int} (hk:k=4\/k=5)
include hc hk
end
end

section
open Go.RowKit
section
variable {ns ns':List Nd} (hf:zaA ns) (hu:UpN ns ns') {k x y r:Int} {c:Nat} {l:List Int}
end
section
variable {AA:World->Value->List Nd->(Nat->Prop)->Prop}
end
end

section
open Go.RowKit
def idL (l:List Int):List Value:=l.map (fun x=>Value.int .i64 x)
def zas (w:World) (base:Nat) (v:Value) (l:List Int):Prop:=w.ownsRow base 3 1 v l.length (idL l)
theorem zcJ:(Tryz.prog.info? 3).map (fun i=>(i.zero,i.size,i.bytes))=some (some (.int .i64 0),1,8):=by kernel_rfl
theorem zas.off {w w':World} {base:Nat} {v:Value} {l:List Int} {F:Nat->Prop} (h:zas w base v l) (ho:OffF F w w') (hn:∀b,F b->v.ownBlock≠some b):zas w' base v l:=by
 obtain ⟨h1,h2⟩:=id h
 refine ⟨h1,?_⟩
 rcases h2 with ⟨e,q⟩ | ⟨g,cap,cur,e,hb,hc,r⟩
 ·exact Or.inl ⟨e,q⟩
 ·refine Or.inr ⟨g,cap,cur,e,hb,?_,r⟩
  have hlt:=(World.ownsRow.lt h g (by rw[e];rfl)).2
  exact (ho.block g hlt (fun q=>hn g q (by rw[e];rfl))).trans hc
theorem zas.form {w:World} {base:Nat} {v:Value} {l:List Int} (h:zas w base v l) (h0:0<l.length):∃g cap,v=.slice (some ⟨g,0,none⟩) l.length cap/\(∀(j:Nat) (hj:j<l.length),w.cell? ⟨g,j,none⟩=some (.int .i64 l[j])):=by
 obtain ⟨g,cap,rfl,_,_⟩:=World.ownsRow.form h h0
 refine ⟨g,cap,rfl,fun j hj=>?_⟩
 rw[xZ h j (by omega)]
 unfold idL
 rw[xC,qI hj]
 rfl
section
variable {AA:World->Value->List Nd->(Nat->Prop)->Prop}
variable (S:zdq AA) {w0 w w':World} {a v:Value} {ns ns':List Nd} {F:Nat->Prop} {ids:List Int} {m:Nat}
end
section
variable {ns:List Nd} {W4 W5 W3:Nat} {x y r:Int}
end
end

section
open Go.Shelf
def zgH:Go.Shelf.Ren:=⟨fun | 189=>105 | 125=>149 | 257=>148 | 128=>179 | 129=>180 | 294=>170 | 295=>171 | 296=>172 | 297=>173 | 298=>174 | 299=>175 | 216=>176 | 300=>177 | 301=>178 | 328=>199 | 329=>200 | 330=>201 | 331=>202 | 332=>203 | 215=>167 | 343=>212 | n=>n,fun | 28=>80 | 3=>3 | 46=>74 | 0=>0 | 51=>210 | 53=>44 | 4=>4 | 183=>204 | 182=>203 | 131=>96 | 5=>5 | 9=>9 | 218=>229 | 222=>233 | 228=>240 | 229=>241 | n=>n,fun | n=>n⟩
theorem zjY:Go.Proofs.Lays.n189 Tryz.prog zgH:={
 mixed:=by kernel_rfl
 f125:=Tryz.func149.trans (congrArg some (by kernel_rfl))
 f128:=Tryz.func179.trans (congrArg some (by kernel_rfl))
 f129:=Tryz.func180.trans (congrArg some (by kernel_rfl))
 f189:=Tryz.func105.trans (congrArg some (by kernel_rfl))
 f215:=Tryz.func167.trans (congrArg some (by kernel_rfl))
 f216:=Tryz.func176.trans (congrArg some (by kernel_rfl))
 f257:=Tryz.func148.trans (congrArg some (by kernel_rfl))
 f294:=Tryz.func170.trans (congrArg some (by kernel_rfl))
 f295:=Tryz.func171.trans (congrArg some (by kernel_rfl))
 f296:=Tryz.func172.trans (congrArg some (by kernel_rfl))
 f297:=Tryz.func173.trans (congrArg some (by kernel_rfl))
 f298:=Tryz.func174.trans (congrArg some (by kernel_rfl))
 f299:=Tryz.func175.trans (congrArg some (by kernel_rfl))
 f300:=Tryz.func177.trans (congrArg some (by kernel_rfl))
 f301:=Tryz.func178.trans (congrArg some (by kernel_rfl))
 f328:=Tryz.func199.trans (congrArg some (by kernel_rfl))
 f329:=Tryz.func200.trans (congrArg some (by kernel_rfl))
 f330:=Tryz.func201.trans (congrArg some (by kernel_rfl))
 f331:=Tryz.func202.trans (congrArg some (by kernel_rfl))
 f332:=Tryz.func203.trans (congrArg some (by kernel_rfl))
 f343:=Tryz.func212.trans (congrArg some (by kernel_rfl))
 t0:=Tryz.underlying0
 a0:=Tryz.isAgg0
 z0:=Tryz.sizeOf0
 v0:=Tryz.zeroValue0
 t3:=Tryz.underlying3
 a3:=Tryz.isAgg3
 z3:=Tryz.sizeOf3
 v3:=Tryz.zeroValue3
 t4:=Tryz.underlying4
 a4:=Tryz.isAgg4
 z4:=Tryz.sizeOf4
 v4:=Tryz.zeroValue4
 t5:=Tryz.underlying5
 a5:=Tryz.isAgg5
 z5:=Tryz.sizeOf5
 v5:=Tryz.zeroValue5
 t9:=Tryz.underlying9
 a9:=Tryz.isAgg9
 z9:=Tryz.sizeOf9
 v9:=Tryz.zeroValue9
 t28:=Tryz.underlying80
 a28:=Tryz.isAgg80
 z28:=Tryz.sizeOf80
 v28:=Tryz.zeroValue80
 t46:=Tryz.underlying74
 a46:=Tryz.isAgg74
 z46:=Tryz.sizeOf74
 v46:=Tryz.zeroValue74
 t51:=Tryz.underlying210
 a51:=Tryz.isAgg210
 z51:=Tryz.sizeOf210
 v51:=Tryz.zeroValue210
 t53:=Tryz.underlying44
 a53:=Tryz.isAgg44
 z53:=Tryz.sizeOf44
 v53:=Tryz.zeroValue44
 t131:=Tryz.underlying96
 a131:=Tryz.isAgg96
 z131:=Tryz.sizeOf96
 v131:=Tryz.zeroValue96
 t182:=Tryz.underlying203
 a182:=Tryz.isAgg203
 z182:=Tryz.sizeOf203
 v182:=Tryz.zeroValue203
 t183:=Tryz.underlying204
 a183:=Tryz.isAgg204
 z183:=Tryz.sizeOf204
 v183:=Tryz.zeroValue204
 t218:=Tryz.underlying229
 a218:=Tryz.isAgg229
 z218:=Tryz.sizeOf229
 v218:=Tryz.zeroValue229
 t222:=Tryz.underlying233
 a222:=Tryz.isAgg233
 z222:=Tryz.sizeOf233
 v222:=Tryz.zeroValue233
 t228:=Tryz.underlying240
 a228:=Tryz.isAgg240
 z228:=Tryz.sizeOf240
 v228:=Tryz.zeroValue240
 t229:=Tryz.underlying241
 a229:=Tryz.isAgg241
 z229:=Tryz.sizeOf241
 v229:=Tryz.zeroValue241}
open Go.Sort Go.RowKit in
theorem zeB (blk off cap:Nat) (zs:List Int) (w:World) (hH:Holds (Value.int .i64) w blk off zs.toArray) (hblk:blk<w.heap.size) (hsz:zs.length<4611686018427387904) :
  Calls Tryz.prog 105 #[.slice (some ⟨blk,off,none⟩) zs.length cap] w fun e w' =>
   e=.returned (.tuple #[])/\∃n os,w'=grow (putRow (Value.int .i64) (Sort.ahead w n) blk off (zs.mergeSort fun x y=>decide (x<=y)).toArray) os:=Any.slices_Sort_int zjY blk off cap zs w hH hblk hsz
def zfG:Go.Shelf.Ren:=⟨fun | 15=>165 | n=>n,fun | 22=>80 | 3=>3 | 4=>4 | n=>n,fun | n=>n⟩
theorem zdt:Go.Proofs.Lays2.n15 Tryz.prog zfG:={
 mixed:=by kernel_rfl
 f15:=Tryz.func165.trans (congrArg some (by kernel_rfl))
 t3:=Tryz.underlying3
 a3:=Tryz.isAgg3
 z3:=Tryz.sizeOf3
 v3:=Tryz.zeroValue3
 t4:=Tryz.underlying4
 a4:=Tryz.isAgg4
 z4:=Tryz.sizeOf4
 v4:=Tryz.zeroValue4
 t22:=Tryz.underlying80
 a22:=Tryz.isAgg80
 z22:=Tryz.sizeOf80
 v22:=Tryz.zeroValue80
 i3:=by kernel_rfl}
open Go.RowKit Go.Lib in
theorem zei (b off n c:Nat) (zs:List Int) (w:World) (hz:n<=zs.length) (hbig:n*8<=140737488355328) (hc:∀j,j<zs.length->w.cell? ⟨b,off+j,none⟩=some (.int .i64 (zs.getD j 0))) :
  Calls Tryz.prog 165 #[.slice (some ⟨b,off,none⟩) n c] w fun e w'=>∃v',e=.returned v'/\w'.ownsRow w.heap.size 3 1 v' n ((zs.take n).map (Value.int .i64))/\v'≠.slice none 0 0/\Below w.heap.size w w':=Any.slices_Clone_int zdt b off n c zs w hz hbig hc
open Go.RowKit Go.Lib in
theorem zc9 (n c:Nat) (w:World) :
  Calls Tryz.prog 165 #[.slice none n c] w fun e w'=>e=.returned (.slice none 0 0)/\w'=w:=Any.slices_Clone_int_nil zdt n c w
open Go.RowKit Go.Lib in
theorem zc2 (a:Addr) (c:Nat) (w:World) :
  Calls Tryz.prog 165 #[.slice (some a) 0 c] w fun e w'=>∃v',e=.returned v'/\w'.ownsRow w.heap.size 3 1 v' 0 []/\v'≠.slice none 0 0/\Below w.heap.size w w':=Any.slices_Clone_int_zero zdt a c w
open Go.RowKit
theorem zas.nil (w:World) (base:Nat):zas w base (.slice none 0 0) []:=kD _ _ _ _
theorem zas.base {w:World} {b b':Nat} {v:Value} {l:List Int} (h:zas w b v l) (hb:b'<=b):zas w b' v l:=by
 obtain ⟨h1,h2⟩:=h
 refine ⟨h1,?_⟩
 rcases h2 with hn | ⟨g,cap,cur,hv,hbg,rest⟩
 ·exact .inl hn
 ·exact .inr ⟨g,cap,cur,hv,qH hb hbg,rest⟩
theorem zas.next {w w':World} {b:Nat} {v:Value} {l:List Int} (h:zas w b v l) (hb:Below w.heap.size w w'):zas w' b v l:=by
 obtain ⟨h1,h2⟩:=id h
 refine ⟨h1,?_⟩
 rcases h2 with hn | ⟨g,cap,cur,hv,hbg,hc,rest⟩
 ·exact .inl hn
 ·refine .inr ⟨g,cap,cur,hv,hbg,?_,rest⟩
  exact (hb.block g (World.ownsRow.lt h g (by rw[hv];rfl)).2).trans hc
theorem zas.grown {w w':World} {b:Nat} {v:Value} {l:List Int} {row:Option Nat} (h:zas w b v l) (hg:w.grownBy w' row) (hr:∀c,row=some c->v.ownBlock≠some c):zas w' b v l:=by
 obtain ⟨h1,h2⟩:=id h
 refine ⟨h1,?_⟩
 rcases h2 with hn | ⟨g,cap,cur,hv,hbg,hc,rest⟩
 ·exact .inl hn
 ·refine .inr ⟨g,cap,cur,hv,hbg,?_,rest⟩
  exact (hg.block g (World.ownsRow.lt h g (by rw[hv];rfl)).2 (fun e=>hr g e.symm (by rw[hv];rfl))).trans hc
theorem zas.lt {w:World} {b:Nat} {v:Value} {l:List Int} (h:zas w b v l) {c:Nat} (e:v.ownBlock=some c):b<=c/\c<w.heap.size:=World.ownsRow.lt h c e
theorem zas.len {w:World} {b:Nat} {v:Value} {l:List Int} (h:zas w b v l):∃A c,v=.slice A l.length c:=by
 obtain ⟨h1,h2⟩:=h
 rcases h2 with ⟨hn,h0⟩ | ⟨g,cap,cur,hv,_⟩
 ·exact ⟨none,0,by rw[hn,h0]⟩
 ·exact ⟨_,_,hv⟩
theorem zas.list {w:World} {b:Nat} {v:Value} {l:List Int} (h:zas w b v l):zb1 w v l:=by
 obtain ⟨A,c,e⟩:=h.len
 refine ⟨A,c,e,fun h0=>?_⟩
 obtain ⟨g,cap,hv,hc⟩:=h.form h0
 rw[e] at hv
 injection hv with hv _ _
 refine ⟨g,0,hv,(h.lt (by rw[e,hv];rfl)).2,fun j hj=>?_⟩
 rw[yH]
 exact hc j hj
theorem zas.init {w:World} {b g p cap:Nat} {l:List Int} {x:Int} (h:zas w b (.slice (some ⟨g,0,none⟩) (p+1) cap) (l++[x])) (hp:l.length=p):zas w b (.slice (some ⟨g,0,none⟩) p cap) l:=by
 obtain ⟨h1,h2⟩:=h
 refine ⟨?_,?_⟩
 ·unfold idL;simp
 ·rcases h2 with ⟨hn,_⟩ | ⟨g',cap',cur,hv,hbg,hc,r1,r2,r3,r4⟩
  ·cases hn
  ·refine .inr ⟨g',cap',cur,?_,hbg,hc,?_,r2,r3,?_⟩
   ·injection hv with e1 e2 e3
    rw[e1,e3,hp]
   ·rw[qF] at r1;simp at r1;omega
   ·rw[qF] at r4
    simp at r4
    have:=congrArg (List.take (l.length)) r4
    rw[List.take_take] at this
    rw[show min l.length (l.length+1)=l.length by omega] at this
    rw[Nat.mul_one,this]
    unfold idL
    rw[jE,List.take_left' (by simp)]
theorem zas.cap {w:World} {b g p cap:Nat} {l:List Int} (h:zas w b (.slice (some ⟨g,0,none⟩) p cap) l):p<=cap:=by
 obtain ⟨h1,h2⟩:=h
 rcases h2 with ⟨hn,_⟩ | ⟨g',cap',cur,hv,hbg,hc,r1,r2,r3,r4⟩
 ·cases hn
 ·injection hv with e1 e2 e3
  rw[e2,e3];exact r1
def zte:Value->Nat
 | .slice _ n _=>n
 | _=>0
theorem ztE {w:World} {v:Value} {l:List Int} (hv:zb1 w v l) (hl:l.length<=1000000):Calls Tryz.prog 165 #[v] w fun e w'=>∃v',e=.returned v'/\zas w' w.heap.size v' l/\Below w.heap.size w w':=by
 obtain ⟨A,c,rfl,h⟩:=hv
 by_cases h0:0<l.length
 ·obtain ⟨b,off,rfl,hlt,hc⟩:=h h0
  refine (zei b off l.length c l w zqn (by omega) (fun j hj=>by rw[hc j hj];simp[List.getD,qI hj])).mono ?_
  rintro e w' ⟨v',rfl,h1,_,h2⟩
  exact ⟨v',rfl,by rw[qQ] at h1;exact h1,h2⟩
 ·obtain rfl:l=[]:=qU (by omega)
  cases A with
  | none =>
   refine (zc9 0 c w).mono ?_
   rintro e w' ⟨rfl,rfl⟩
   exact ⟨_,rfl,zas.nil _ _,qT _ _⟩
  | some a =>
   refine (zc2 a c w).mono ?_
   rintro e w' ⟨v',rfl,h1,_,h2⟩
   exact ⟨v',rfl,h1,h2⟩
theorem zuX {w:World} {b:Nat} {v:Value} {l:List Int} (h:zas w b v l) (h0:0<l.length) (hl:l.length<=1000000):Calls Tryz.prog 105 #[v] w fun e w'=>e=.returned (.tuple #[])/\zas w' b v (l.mergeSort fun x y=>decide (x<=y))/\w.grownBy w' v.ownBlock:=by
 obtain ⟨h1,h2⟩:=id h
 rcases h2 with ⟨_,hn⟩ | ⟨g,cap,cur,rfl,hbg,hc,r1,r2,r3,r4⟩
 ·omega
 ·rw[Nat.mul_one] at r4
  have hg:g<w.heap.size:=(Array.getElem?_eq_some_iff.1 hc).1
  refine (zeB g 0 cap l w (holds_of_blockI hc r4) hg (by omega)).mono ?_
  rintro e w' ⟨rfl,n,os,rfl⟩
  refine ⟨rfl,?_,grownBy_sortedI _⟩
  have:=ownsRow_sortedI (n:=n) (os:=os) (base:=b) (ss:=l) (ts:=l.mergeSort fun x y=>decide (x<=y)) (by simp) hbg hc r1 r2 r3
  unfold zas
  rw[show (l.mergeSort fun x y=>decide (x<=y)).length=l.length by simp]
  exact this
end

section
open Go.RowKit Go.Shelf
attribute [local go_sem] Oper.semAt_some
abbrev Num:={x:Int // I64 x}
open Classical in
noncomputable def znm (x:Int):Num:=if h:I64 x then ⟨x,h⟩ else ⟨0,by unfold I64;omega⟩
theorem zkG {x:Int} (h:I64 x):(znm x).1=x:=by unfold znm;rw[dif_pos h]
noncomputable def zdO (zs:List Int) (k:Nat):List (Nat×Num):=(List.range k).map (fun j=>(zs.length-1-j,znm (zs[zs.length-1-j]?.getD 0)))
theorem zeC (zs:List Int) (k:Nat):zdO zs (k+1)=zdO zs k++[(zs.length-1-k,znm (zs[zs.length-1-k]?.getD 0))]:=by simp[zdO,kF]
theorem zdu (zs:List Int) (k:Nat):(zdO zs k).length=k:=by simp[zdO]
def zbg (b g:Nat) (W W':World):Prop:=W'.heap[b]?=W.heap[b]?/\W'.heap[g]?=W.heap[g]?
theorem zbg.trans {b g:Nat} {A B C:World} (h:zbg b g A B) (k:zbg b g B C):zbg b g A C:=⟨k.1.trans h.1,k.2.trans h.2⟩
theorem zbg.refl (b g:Nat) (A:World):zbg b g A A:=⟨rfl,rfl⟩
theorem back1_in (F:Fence) (n:Nat) (h1:F.fn 162) (hro:F.round=none) (hn:1<=n) (l Bs g cap:Nat) (zs:List Int) (hlen:zs.length<=1000000) (hz:∀j,j<zs.length->I64 (zs[j]?.getD 0)) (J Jx:List (Nat×Num)->World->Prop)
  (hY:∀pre x W,J pre W->pre.length<zs.length->YieldAt F (n-1) Tryz.prog l #[.int .i64 (x.1:Int),.int .i64 x.2.1] W fun e W' =>
   (e=.returned (.bool true)/\J (pre++[x]) W'/\zbg Bs g W W')\/(e=.returned (.bool false)/\Jx (pre++[x]) W'))
  (W:World) (hBs:W.cell? ⟨Bs,0,none⟩=some (.slice (some ⟨g,0,none⟩) zs.length cap)) (hc:∀j,j<zs.length->W.cell? ⟨g,j,none⟩=some (.int .i64 (zs[j]?.getD 0))) (h0:J [] W) :
  CallsIn F n Tryz.prog 162 #[.func (.yield l) #[] #[],.pointer (some ⟨Bs,0,none⟩)] W fun e W'=>(∃v,e=.returned v) /\
   ((∃ys,ys=zdO zs zs.length/\J ys W')\/(∃pre,(∃k,k<=zs.length/\pre=zdO zs k)/\Jx pre W')):=by
 refine callsIn_of_wp Tryz.func162 rfl h1 ?_ hro
 simp only[Tryz.ntmps162,qO,jX,gD,Nat.reduceAdd,Nat.reduceSub,gJ,gI,List.push_toArray,gM,yW,List.cons_append]
 obtain ⟨p,hp⟩:∃p,p=zs.length:=⟨_,rfl⟩
 rw[<-hp] at hBs
 have hw:IntKind.i64.wrap ((p:Int)-1)=(p:Int)-1:=by
  rw[xX]
  exact xN _ (by omega)
 gi_wp2
 gi_loopw [3] (fun i wr=>∃q:Nat,q<=p/\i=.int .i64 ((q:Int)-1)/\J (zdO zs (p-q)) wr/\zbg Bs g W wr)
  (fun i _=>(intOf i+1).toNat)
 case atStart=>exact ⟨p,qL _,by go_num,by rw[kK];exact h0,zbg.refl _ _ _⟩
 case round =>
  obtain ⟨q,hq,rfl,hJs,hnx⟩:=hrel
  have hcx:∀j,j<zs.length->wr.cell? ⟨g,j,none⟩=some (.int .i64 (zs[j]?.getD 0)):=fun j hj=>(yA hnx.2).trans (hc j hj)
  have hbx:wr.cell? ⟨Bs,0,none⟩=some (.slice (some ⟨g,0,none⟩) p cap):=(yA hnx.1).trans hBs
  cases q with
  | zero =>
   rw[show ((0:Nat):Int)-1=-1 from rfl]
   gi_wp2
   go_end0
   exact ⟨⟨_,rfl⟩,.inl ⟨_,rfl,by rw[Nat.sub_zero,hp] at hJs;exact hJs⟩⟩
  | succ q =>
   rw[show ((q+1:Nat):Int)-1=(q:Int) by omega]
   have hq0:(0:Int)<=(q:Int):=by omega
   have hqp:(q:Int)<(p:Int):=by omega
   have hqw:IntKind.i64.wrap ((q:Int)-1)=(q:Int)-1:=by
    rw[xX]
    exact xN _ (by omega)
   obtain ⟨fn,tmps,assign,body,hy,hR⟩:=hY _ (q,znm (zs[q]?.getD 0)) wr hJs (by rw[zdu];omega)
   dsimp only at hy
   rw[zkG (hz q (by omega))] at hy
   have hcx':=hcx q (by omega)
   gi_wp2
   refine hR.mono ?_
   rintro e W3 (⟨rfl,hJ3,hk3⟩ | ⟨rfl,hJx3⟩)
   ·gi_wp2
    go_roundw
    case rel=>exact ⟨q,by omega,by go_num,by rw[show p-q=(p-(q+1))+1 by omega,zeC,show zs.length-1-(p-(q+1))=q by omega];exact hJ3,hnx.trans hk3⟩
    case measure=>simp[intOf]<;>omega
   ·gi_wp2
    refine yD (results_none rfl _ _ _) rfl ?_
    exact ⟨⟨_,rfl⟩,.inr ⟨_,⟨(p-(q+1))+1,by omega,by rw[zeC,show zs.length-1-(p-(q+1))=q by omega]⟩,hJx3⟩⟩
theorem znn (F:Fence) (n:Nat) (h1:F.fn 122) (hro:F.round=none) (v:Value) (a:Option Addr) (len cap:Nat) (hv:v=.slice a len cap) (w:World) :
  CallsIn F n Tryz.prog 122 #[v] w fun e w'=>e=.returned (.func (.func 162) #[] #[.pointer (some ⟨w.heap.size,0,none⟩)])/\w'=w.alloc (.cells #[v] 80):=by
 subst hv
 refine callsIn_of_wp Tryz.func122 rfl h1 ?_ hro
 simp only[Tryz.ntmps122,qO,jX,gD,Nat.reduceAdd,Nat.reduceSub,gJ,gI,List.push_toArray,gM,yW,List.cons_append]
 gi_wp2
 go_ret
 exact ⟨rfl,rfl⟩
theorem back_stops (F:Fence) (n:Nat) (h1:F.fn 162) (hro:F.round=none) (hn:1<=n) (Bs g cap:Nat) (zs:List Int) (hlen:zs.length<=1000000) (hz:∀j,j<zs.length->I64 (zs[j]?.getD 0)) (w:World) (hB:Bs<w.heap.size) (hg:g<w.heap.size)
  (hBs:w.cell? ⟨Bs,0,none⟩=some (.slice (some ⟨g,0,none⟩) zs.length cap)) (hc:∀j,j<zs.length->w.cell? ⟨g,j,none⟩=some (.int .i64 (zs[j]?.getD 0))) :
  SeqStopsK F n Tryz.prog 162 #[.pointer (some ⟨Bs,0,none⟩)] (fun x:Nat×Num=>#[Value.int .i64 (x.1:Int),Value.int .i64 x.2.1]) (zbg Bs g) (fun ys=>ys=zdO zs zs.length) (fun pre=>∃k,k<=zs.length/\pre=zdO zs k) zs.length w:=fun l J Jx W hW _ _ hY h0 =>
 back1_in F n h1 hro hn l Bs g cap zs hlen hz J Jx hY W ((hW.cell (p:=⟨Bs,0,none⟩) hB).trans hBs) (fun j hj=>(hW.cell (p:=⟨g,j,none⟩) hg).trans (hc j hj)) h0
end

section
open Go.RowKit Go.Shelf
attribute [local go_sem] Oper.semAt_some
section
variable {AA:World->Value->List Nd->(Nat->Prop)->Prop}
def sorted (l:List Int):List Int:=l.mergeSort fun x y=>decide (x<=y)
theorem zgI {W W':World} {b:Nat} {t:TypeId} {cs:Array Value} {row:Option Nat} (h:At W b t cs) (hg:W.grownBy W' row) (hr:∀r,row=some r->∃o:Obj,W.heap[r]?=some o/\o.isCells=false):At W' b t cs :=
 (hg.block b h.lt (fun e=>by
  obtain ⟨o,ho,hc⟩:=hr b e.symm
  rw[h] at ho
  cases ho
  cases hc)).trans h
end
end
end Go.Proofs.YtdmodhnhldbpnaaGreat
