/- Joined: FgAnswer, FgFormed, LwState. -/
import Derived.Test.YtdmodhnhldbpnaaGreatMbg
import Derived.Test.YtdmodhnhldbpnaaGreatMag
import Derived.Test.YtdmodhnhldbpnaaGreatMal
import Derived.Test.YtdmodhnhldbpnaaGreatMak
import Derived.Test.YtdmodhnhldbpnaaGreatAid
/- package formula: answer, in memory of its own. -/
set_option linter.unusedSimpArgs false
set_option linter.unusedVariables false
set_option maxHeartbeats 8000000
set_option maxRecDepth 100000
namespace Go.Proofs.YtdmodhnhldbpnaaGreat
section
open Go.RowKit
def zaZ (base:Nat) (w:World) (v:Value) (f:Fm):Prop:=∀w':World,(∀b,base<=b->b<w.heap.size->w'.heap[b]?=w.heap[b]?)->w.heap.size<=w'.heap.size->zcF w' v f
theorem zaZ.low {base base':Nat} {w:World} {v:Value} {f:Fm} (h:zaZ base w v f) (hb:base'<=base):zaZ base' w v f:=fun w'' h1 h2=>h w'' (fun b b1 b2=>h1 b (qH hb b1) b2) h2
theorem zaZ.none (base:Nat) (w:World):zaZ base w (.slice none 0 0) []:=fun w' _ _=>⟨Option.none,0,rfl,qL _,by omega,fun h=>absurd h (jM _)⟩
theorem zfU (xs:List Pt) (A:Option Addr) (n c:Nat) (w:World) (h:zdC w (.slice A n c) xs) (hl:xs.length<=100000) (hl2:∀x∈xs,x.l.length<=1000000) :
  Calls Tryz.prog 182 #[.slice A n c,.bool true] w fun e w'=>∃b,e=.returned (.tuple #[.slice (some ⟨b,0,none⟩) xs.length xs.length,.int .i64 0])/\zaZ w.heap.size w' (.slice (some ⟨b,0,none⟩) xs.length xs.length) (zbJ xs)/\Below w.heap.size w w':=by
 have HI:=zqh h
 obtain ⟨hm,hm2,hm3⟩:=h.max
 obtain rfl:=h.len
 have HL2:=zqh hl2
 have hmk:=zn9 xs.length (by omega)
 have hB0:Below w.heap.size w (w.alloc (.cells (madeCells #[.slice none 0 0] xs.length) 80)):=zqb
 have hA0:At (w.alloc (.cells (madeCells #[.slice none 0 0] xs.length) 80)) w.heap.size 80 (madeCells #[.slice none 0 0] xs.length):=At.new _ _ _
 have hms:(madeCells #[Value.slice none 0 0] xs.length).size=xs.length:=by simp[madeCells]
 clear h hl2
 go_enter Tryz.func182,Tryz.ntmps182
 go_wp2_with fail
 clear hmk
 generalize w.alloc (.cells (madeCells #[.slice none 0 0] xs.length) 80)=W at hB0 hA0 ⊢
 generalize madeCells #[Value.slice none 0 0] xs.length=cs0 at hA0 hms
 have HB0:=zqh hB0
 have HA0:=zqh hA0
 have HMs:=zqh hms
 obtain ⟨g,hgd⟩:∃g,g=w.heap.size:=⟨_,rfl⟩
 have hgd2:=zqh hgd
 clear hB0 hA0 hms
 rw[<-hgd] at HA0 ⊢
 clear hgd
 go_loopw [16] (fun v wr=>∃(i:Nat),i<=xs.length/\v=.int .i64 i/\Hid (Below w.heap.size w wr)/\Hid (∃cs,At wr g 80 cs/\cs.size=xs.length/\∀j (h:j<xs.length),j<i->∃u,cs[j]?=some u/\zbB wr (fun b=>b<w.heap.size\/b=g) ⟨u,xs[j].m,xs[j].l⟩)) (fun v _=>xs.length-(intOf v).toNat)
 case atStart=>exact ⟨0,qK _,rfl,HB0,zqh ⟨cs0,HA0.out,HMs.out,fun j h h0=>absurd h0 (jD _)⟩⟩
 case round =>
  obtain ⟨i,hi,rfl,HB,HT⟩:=hrel
  by_cases hlt:i<xs.length
  ·have h1:(0:Int)<=(i:Int):=by omega
   have h2:(i:Int)<(xs.length:Int):=by omega
   obtain ⟨gx,x,rfl,_,hx,q0,q1,hxo⟩:=(HI.out.next HB.out).at i hlt
   have HX:=zqh hxo
   have HXi:=zqh hx
   have HXm:Hid (x∈xs):=zqh (by rw[<-(List.getElem?_eq_some_iff.1 hx).2];exact qG hlt)
   obtain ⟨Ax,cx,hv,_⟩:=hxo.1
   obtain ⟨xv,hxv⟩:∃xv,x.v=xv:=⟨_,rfl⟩
   rw[hxv] at hv q0
   subst hv
   have HXv:=zqh hxv
   clear hxo hx hxv
   obtain ⟨cs,k1,k2,k3⟩:=HT.out
   have hgl:=k1.lt
   have hb1:Below wr.heap.size wr ((wr.alloc (.cells #[.slice Ax x.l.length cx,.int .u64 x.m] 171)).alloc (.cells #[] 3)):=(zqb).alloc (by simp) _
   have hsrc:Src ((wr.alloc (.cells #[.slice Ax x.l.length cx,.int .u64 x.m] 171)).alloc (.cells #[] 3)) 1 (.slice Ax x.l.length cx) x.l.length (x.l.map (Value.int .i64)):=by
    have:=(HX.out.ints.next hb1).src
    rwa [HXv.out] at this
   obtain ⟨ti,hti,htz,hts,htb⟩:=yZ zfm
   have hes:(wr.alloc (.cells #[.slice Ax x.l.length cx,.int .u64 x.m] 171)).heap.size=wr.heap.size+1:=by simp
   have hemp:((wr.alloc (.cells #[.slice Ax x.l.length cx,.int .u64 x.m] 171)).alloc (.cells #[] 3)).ownsRow (wr.heap.size+1) 3 1 (.slice (some ⟨wr.heap.size+1,0,none⟩) 0 0) 0 []:=by
    have:=World.ownsRow_made (e:=3) (base:=wr.heap.size+1) (size:=1) (wr.alloc (.cells #[.slice Ax x.l.length cx,.int .u64 x.m] 171)) #[] 0 (by rw[hes];exact qL _) (by decide) rfl
    rwa [hes] at this
   obtain ⟨v6,w6,hr6,o1,o2,o3⟩:=zcG (T:=80) (E:=3) Tryz.underlying80 hti htz hts htb rfl (by decide) (by decide) _ (wr.heap.size+1) _ 0 [] _ x.l.length _ 80 hemp (by simp) hsrc (by have:=HL2.out x HXm.out;omega)
   rw[yH,yW] at o1
   obtain ⟨A6,c6,rfl,o4,o5⟩:=zfr o1 (fun y hy=>by have:=HX.out.2.1.2 y hy;unfold IsI;omega)
   have hb6:Below wr.heap.size wr w6:=zcC hb1 (by simp;omega) o2 (fun k e=>by have e:some (wr.heap.size+1)=some k:=e;injection e with e;omega)
   have k1':=k1.below hb6 k1.lt
   have hwz:=HB.out.size
   have hpt:zbB w6 (fun b=>b<w.heap.size\/b=g) ⟨.slice A6 x.l.length c6,x.m,x.l⟩:=zde o4 (fun b off s e h=>by have:=o5 b off s e;omega) HX.out.2.1.1 HX.out.2.1.2 HX.out.2.2
   obtain ⟨old,u0⟩:∃old,w6.cell? ⟨g,i,none⟩=some old:=⟨_,(k1'.cell i).trans (jZ (by omega))⟩
   have f0:=k1'.free i
   have HR6:=zqh hr6
   have HB6:=zqh hb6
   have HPt:=zqh hpt
   have K1:=zqh k1'
   have K2:=zqh k2
   have K3:=zqh k3
   have HG:=zqh hgl
   have Hes:=zqh hes
   clear k1 k1' k2 k3 hr6 hb6 hb1 hsrc hemp o1 o2 o3 o4 o5 hpt hti htz hts htb hes
   go_wp2_with (first | (at_builtin;refine Lib.wpList_append_run _ rfl _ _ _ _ rfl _ _ rfl rfl (.slice A6 x.l.length c6) w6 HR6.out ?_) | fail)
   have hg1:=zuf w6 g i (.slice A6 x.l.length c6)
   have hgw:w.heap.size<=g:=by rw[hgd2.out];exact qL _
   refine ⟨⟨i+1,by omega,by go_num,zqh ((HB.out.trans (HB6.out.mono HB.out.size)).setCell (p:=⟨g,i,none⟩) hgw _),zqh ⟨_,K1.out.set i _,by rw[Array.size_setIfInBounds];exact K2.out,fun j hj hji=>?_⟩⟩,by simp[intOf];omega⟩
   by_cases e:j=i
   ·subst e
    have e2:xs[j]=x:=(List.getElem?_eq_some_iff.1 HXi.out).2
    refine ⟨_,xD (by rw[K2.out];exact hj),?_⟩
    rw[e2]
    exact HPt.out.grown hg1 (fun k e=>by injection e with e;exact Or.inr e.symm)
   ·obtain ⟨u,hu,hp⟩:=K3.out j hj (by omega)
    refine ⟨u,by rw[jT (fun h=>e h.symm)];exact hu,?_⟩
    exact ((hp.below HB6.out).grown hg1 (fun k e=>by injection e with e;exact Or.inr e.symm))
  ·obtain rfl:i=xs.length:=by omega
   go_wp2_with fail
   obtain ⟨cs,k1,k2,k3⟩:=HT.out
   have hlf:(zbJ xs).length=xs.length:=by simp[zbJ]
   refine yD (v:=.tuple #[.slice (some ⟨g,0,none⟩) xs.length xs.length,.int .i64 0]) (by simp[results,Tryz.results182,go_sem]) rfl ⟨g,rfl,fun w'' hk hz=>⟨_,_,by rw[hlf],by rw[hlf];exact qL _,by omega,fun _=>⟨g,0,rfl,qM k1.lt hz,fun j hj=>?_⟩⟩,HB.out⟩
   rw[hlf] at hj
   obtain ⟨u,hu,hp⟩:=k3 j hj hj
   have k1':At w'' g 80 cs:=(hk g (by rw[hgd2.out];exact qL _) k1.lt).trans k1
   refine ⟨u,by rw[yH,k1'.cell j];exact hu,?_⟩
   have:za5 (zbJ xs) j=xs[j].l:=by rw[zaz (by rw[hlf];exact hj)];simp[zbJ]
   rw[this]
   exact (hp.kept (R':=fun _=>False) hz (fun b hb hlt=>hk b (Nat.le_of_not_lt (fun q=>hb (Or.inl q))) hlt) (fun _ _ h=>h.elim)).ints
theorem zhb (v:Value) (w:World):Calls Tryz.prog 182 #[v,.bool false] w fun e w'=>e=.returned (.tuple #[.slice none 0 0,.int .i64 4])/\w'=w:=by
 go_enter Tryz.func182,Tryz.ntmps182
 go_wp2_with fail
 exact yD (v:=.tuple #[.slice none 0 0,.int .i64 4]) (by simp[results,Tryz.results182,go_sem]) rfl ⟨rfl,rfl⟩
end

section
open Go.RowKit
structure zbf (L:List Int) (f:Fm):Prop where
 fmd:Fmd f
 inn:∀p∈f,∀n∈p,n∈L
 few:f.length<=200
theorem zbf.part {L:List Int} {f:Fm} (h:zbf L f) (hL:Up L) {p:List Int} (hp:p∈f):p.length<=L.length:=zg9 hL (h.fmd.up p hp).1 (h.inn p hp)
theorem zbf.mono {L M:List Int} {f:Fm} (h:zbf L f) (hm:∀n∈L,n∈M):zbf M f:=⟨h.fmd,fun p hp n hn=>hm n (h.inn p hp n hn),h.few⟩
theorem zbf.nil (L:List Int):zbf L []:=⟨zdX.1,(fun p hp=>by cases hp),qK _⟩
theorem zbf.fm {L:List Int} {f:Fm} (h:zbf L f):fmS f=true:=ztl h.fmd
def zsK (w:World) (L:List Int) (H:List Int->Bool) (e:Ending) (w':World):Prop :=
 ∃(A:Option Addr) (c:Nat) (x:Fm) (er:Int),e=.returned (.tuple #[.slice A x.length c,.int .i64 er])/\zaZ w.heap.size w' (.slice A x.length c) x/\zbf L x/\((er=0/\∀on,zap x on=H on)\/(er=4/\x=[]))/\Below w.heap.size w w'
theorem zfV {w:World} {A:Option Addr} {n c:Nat} {f:Fm} (h:zcF w (.slice A n c) f) (hl0:f.length<=100000) (hl:∀p∈f,p.length<=100000) :
  Calls Tryz.prog 64 #[.slice A n c] w fun e w'=>e=.returned (.bool (fmS f))/\Below w.heap.size w w':=by
 have HI:=zqh h
 have hm:=h.max
 obtain rfl:=h.len
 have HL:=zqh hl
 clear h hl
 go_enter Tryz.func64,Tryz.ntmps64
 go_wp2_with fail
 go_loopw [7] (fun v wr=>∃(i:Nat),i<=f.length/\v=.int .i64 i/\w=wr/\Hid (zvd f i)) (fun v _=>f.length-(intOf v).toNat)
 case atStart=>exact ⟨0,qK _,rfl,rfl,zqh (fun j hj=>absurd hj (jD _))⟩
 case round =>
  obtain ⟨i,hi,rfl,rfl,HN⟩:=hrel
  by_cases hlt:i<f.length
  ·have h1:(0:Int)<=(i:Int):=by omega
   have h2:(i:Int)<(f.length:Int):=by omega
   obtain ⟨b,off,A2,c2,rfl,hbl,q0,hp⟩:=HI.out.at i hlt
   have HP:=zqh hp
   clear hp
   obtain ⟨u,hu⟩:∃u,upS (-1) (za5 f i)=u:=⟨_,rfl⟩
   have HU:=zqh hu
   have hR:=zt8 (za5 f i) A2 _ c2 w HP.out
   rw[hu] at hR
   have HR:=zqh hR
   clear hR hu
   cases u
   ·go_wp2_with fail
    refine HR.out.mono ?_
    rintro e w3 ⟨rfl,rfl⟩
    go_wp2_with fail
    go_ret
    refine ⟨?_,qT _ _⟩
    rw[zrb hlt (fun h=>by rw[HU.out] at h;exact absurd h.1 (by simp))];rfl
   ·by_cases h0:i=0
    ·subst h0
     have q00:w.cell? ⟨b,off,none⟩=some (.slice A2 (za5 f 0).length c2):=q0
     clear q0
     go_wp2_with fail
     refine HR.out.mono ?_
     rintro e w3 ⟨rfl,rfl⟩
     go_wp2_with fail
     refine ⟨⟨1,by omega,by go_num,by first | rfl | trivial,zqh (fun j hj=>?_)⟩,by simp[intOf];omega⟩
     obtain rfl:j=0:=by omega
     exact ⟨HU.out,.inl rfl⟩
    ·obtain ⟨k,rfl⟩:∃k,i=k+1:=⟨i-1,by omega⟩
     obtain ⟨b',off',A3,c3,hA3,_,q3,hp3⟩:=HI.out.at k (by omega)
     injection hA3 with hA3
     injection hA3 with e1 e2
     subst e1 e2
     have hwp:IntKind.i64.wrap (k:Int)=(k:Int):=by rw[yY];omega
     have z1:(0:Int)<(k:Int)+1:=by omega
     have z2:(k:Int)+1 > 0:=by omega
     have z3:(k:Int)<(f.length:Int):=by omega
     obtain ⟨r,hr⟩:∃r,zqc (za5 f k) (za5 f (k+1))=r:=⟨_,rfl⟩
     have hO:=zvC (za5 f k) (za5 f (k+1)) A3 A2 _ c3 _ c2 w hp3 HP.out
     rw[hr] at hO
     have HO:=zqh hO
     have HRr:=zqh hr
     clear hO hr hp3
     by_cases hrr:r≥0
     ·have hr0:(0:Int)<=r:=hrr
      go_wp2_with fail
      refine HR.out.mono ?_
      rintro e w3 ⟨rfl,rfl⟩
      go_wp2_with fail
      refine HO.out.mono ?_
      rintro e w3 ⟨rfl,rfl⟩
      go_wp2_with fail
      go_ret
      refine ⟨?_,qT _ _⟩
      rw[zrb hlt (fun h=>by
       rcases h.2 with h | h
       ·omega
       ·rw[xF,<-zf1,HRr.out] at h;omega)];rfl
     ·have hr0:¬(0:Int)<=r:=hrr
      go_wp2_with fail
      refine HR.out.mono ?_
      rintro e w3 ⟨rfl,rfl⟩
      go_wp2_with fail
      refine HO.out.mono ?_
      rintro e w3 ⟨rfl,rfl⟩
      go_wp2_with fail
      refine ⟨⟨k+1+1,by omega,by go_num,by first | rfl | trivial,zqh (fun j hj=>?_)⟩,by simp[intOf];omega⟩
      by_cases e:j=k+1
      ·subst e
       exact ⟨HU.out,.inr (by rw[xF,<-zf1,HRr.out];omega)⟩
      ·exact HN.out j (by omega)
  ·obtain rfl:i=f.length:=by omega
   obtain ⟨hs,hu⟩:=zug HN.out
   have HS:=zqh hs
   have HU:=zqh hu
   clear hs hu
   go_wp2_with fail
   refine (zfl f A _ c w HI.out (by omega) HU.out).mono ?_
   rintro e w1 ⟨v1,ps,rfl,p1,p2,p3,p4⟩
   have hpl:ps.length=f.length:=by rw[<-p3,qS]
   have hLe:=zue ps f.length v1 w.heap.size w1 p1 (fun x hx=>(p2 x hx).forget (fun b _ e=>(World.ownsRow.lt p1 b e).1)) (by omega) (fun x hx=>by
    have:=HL.out x.l (by rw[<-p3];exact List.mem_map.2 ⟨x,hx,rfl⟩)
    omega) hm (zmi p3 HS.out)
   have HLe:=zqh hLe
   have HP3:=zqh p3
   have HP4:=zqh p4
   clear hLe p1 p2 p3 p4 hpl
   go_wp2_with fail
   refine HLe.out.mono ?_
   rintro e w2 ⟨v2,r,rfl,l1,⟨l2,_⟩,l4,l5⟩
   have HB:Hid (Below w.heap.size w w2):=zqh (zcC HP4.out HP4.out.size l5 (fun k e=>by rw[<-l2] at e;exact (World.ownsRow.lt l1 k e).1))
   have hfm:=zqh (zqk HP3.out HS.out l4)
   obtain ⟨A2,c2,rfl⟩:=zbI l1
   clear l1 l2 l4 l5
   by_cases hrl:r.length=f.length
   ·have e1:((r.length:Int)==(f.length:Int))=true:=by simp[hrl]
    have HE:Hid (fmS f=true):=zqh (by rw[hfm.out,qD hrl])
    clear hrl
    go_wp2_with fail
    go_ret
    exact ⟨by rw[HE.out];rfl,HB.out⟩
   ·have e1:((r.length:Int)==(f.length:Int))=false:=by simp;omega
    have HE:Hid (fmS f=false):=zqh (by rw[hfm.out,qE hrl])
    clear hrl
    go_wp2_with fail
    go_ret
    exact ⟨by rw[HE.out];rfl,HB.out⟩
end

section
open Go.RowKit Go.Maps
def fmR (v:Value):Option (DataW Value×List MemPlace):=some (.held v,[])
theorem zhc {H:Type} {P:Program} {k:TypeId} {R:Value->Option (DataW H×List MemPlace)} {w:World} {b n:Nat} {D:DataW H} (h:w.ownsMap P k R b n D):w.ownsMap P k R b (Maps.size D) D:=by
 obtain ⟨es,clock,hb,F,hs,rfl⟩:=h
 refine ⟨es,clock,hb,F,?_,rfl⟩
 have e1:Maps.size (DataW.map ((es.toList.map (WideElems.rg P k R)).foldr DataW.insert []))=es.size:=by simp[Maps.size,length_sorted]
 exact Nat.le_of_eq e1.symm
structure ziq (w:World) (m:Nat) (s:List Int) (get:Int->Value):Prop where
 ex:∃D:DataW Value,w.ownsMap Tryz.prog 3 fmR m s.length D/\∀x,I64 x->has D (.int .i64 x)=decide (x∈s)/\(x∈s->D.atKey (.int .i64 x) (.held (.slice none 0 0))=.held (get x))
 nodup:s.Nodup
theorem ziq.made (w:World) (get:Int->Value):ziq (w.alloc (.map #[] 0)) w.heap.size [] get:=⟨⟨_,World.ownsMap_made _ _ _ _,fun x _=>⟨(show false=decide (x∈([]:List Int)) by simp),fun h=>by cases h⟩⟩,gO⟩
section
variable {w w':World} {m:Nat} {s:List Int} {get:Int->Value}
theorem ziq.lt (h:ziq w m s get):m<w.heap.size:=by obtain ⟨D,h1,_⟩:=h.ex;exact h1.lt
theorem ziq.kept (h:ziq w m s get) (hb:w'.heap[m]?=w.heap[m]?):ziq w' m s get:=by
 obtain ⟨D,⟨es,clock,h1,h2⟩,h3⟩:=h.ex
 exact ⟨⟨D,⟨es,clock,hb.trans h1,h2⟩,h3⟩,h.nodup⟩
theorem zui (w:World):(zeroValue 29).run Tryz.prog w=.ok (.slice none 0 0) w:=by kernel_rfl
theorem ziq.look (h:ziq w m s get) {x:Int} (hx:I64 x):(Instr.lookup 98 (.map (some m)) (.int .i64 x) true).run Tryz.prog w=.ok (.tuple #[if x∈s then get x else .slice none 0 0,.bool (decide (x∈s))]) w:=by
 obtain ⟨D,hown,hD⟩:=h.ex
 obtain ⟨h1,h2⟩:=hD x hx
 obtain ⟨v,ps,hr,hv⟩:=hown.look_ok zaS Tryz.underlying98 (zui w) (zd:=.held (.slice none 0 0)) (zp:=[]) rfl (zci hx)
 rw[hr,h1]
 unfold fmR at hv
 injection hv with hv
 injection hv with hv _
 by_cases e:x∈s
 ·rw[h2 e] at hv
  injection hv with hv
  rw[hv,if_pos e]
 ·rw[atKey_of_not_has (by rw[h1];exact qE e)] at hv
  injection hv with hv
  rw[hv,if_neg e]
theorem ziq.store (h:ziq w m s get) {x:Int} (hx:I64 x) (v:Value) (hn:s.length<=1000000):∃w',(Instr.mapUpdate 98 (.map (some m)) (.int .i64 x) v).run Tryz.prog w=.ok () w'/\ziq w' m (if x∈s then s else x::s) (fun y=>if y=x then v else get y)/\w.grownBy w' (some m):=by
 obtain ⟨D,hown,hD⟩:=h.ex
 obtain ⟨w',hr,h1,h2⟩:=kO (val:=v) (d:=.held v) (ps:=[]) hown zaS Tryz.underlying98 (show s.length<maxLen by unfold maxLen;omega) (zci hx) rfl
 have hsz:=size_put (hown.tidy zaS) (k:=.int .i64 x) (DataW.held v)
 have hle:=hown.size_le
 refine ⟨w',hr,⟨⟨_,(zhc h1).mono ?_,fun y hy=>?_⟩,?_⟩,h2⟩
 ·rw[hsz,(hD x hx).1]
  by_cases e:x∈s
  ·rw[if_pos (qD e),if_pos e];exact hle
  ·rw[if_neg (by rw[qE e];simp),if_neg e,jX];omega
 ·have hmem:(y∈(if x∈s then s else x::s))↔y=x\/y∈s:=by
   by_cases e:x∈s
   ·rw[if_pos e]
    exact ⟨Or.inr,fun q=>q.elim (fun z=>by rw[z];exact e) id⟩
   ·rw[if_neg e,kB]
  by_cases e:x=y
  ·subst e
   rw[has_put_same hown.isMap (zaS.key (zci hx)),atKey_put_same hown.isMap (zaS.key (zci hx)),if_pos rfl]
   exact ⟨(qD (hmem.2 (Or.inl rfl))).symm,fun _=>rfl⟩
  ·have hk:(Lit.int .i64 y)≠Lit.int .i64 x:=fun q=>by injection q with _ q;exact e q.symm
   obtain ⟨q1,q2⟩:=hD y hy
   rw[has_put_other hk,q1,atKey_put_other hk,if_neg (show ¬y=x from fun q=>e q.symm)]
   refine ⟨?_,fun q=>q2 ?_⟩
   ·by_cases hm:y∈s
    ·rw[qD hm,qD (hmem.2 (Or.inr hm))]
    ·rw[qE hm,qE (fun q=>by rcases hmem.1 q with q | q;exact e q.symm;exact hm q)]
   ·rcases hmem.1 q with q | q
    ·exact absurd q.symm e
    ·exact q
 ·by_cases e:x∈s
  ·rw[if_pos e];exact h.nodup
  ·rw[if_neg e];exact List.nodup_cons.2 ⟨e,h.nodup⟩
end
theorem zql (w:World):(zeroValue 107).run Tryz.prog w=.ok (.agg #[.bool false]) w:=by kernel_rfl
theorem za1.lookN {w:World} {b:Nat} {f:Int->Bool} {s:List Int} {x:Int} (h:za1 w b f s) (hx:I64 x):(Instr.lookup 99 (.map (some b)) (.int .i64 x) true).run Tryz.prog w=.ok (.tuple #[.agg #[.bool (decide (x∈s)&&f x)],.bool (decide (x∈s))]) w:=by
 obtain ⟨D,hown,hD⟩:=h
 obtain ⟨h1,h2⟩:=hD x hx
 obtain ⟨v,ps,hr,hv⟩:=hown.look_ok zaS Tryz.underlying99 (zql w) (zd:=.lit (.bool false)) (zp:=[]) rfl (zci hx)
 rw[hr,h1]
 by_cases e:x∈s
 ·rw[h2 e] at hv
  rw[zic hv,qD e,jS]
 ·rw[atKey_of_not_has (by rw[h1];exact qE e)] at hv
  rw[zic hv,qE e,yC]
theorem za1.storeN {w:World} {b:Nat} {f:Int->Bool} {s:List Int} {x:Int} {v:Bool} (h:za1 w b f s) (hx:I64 x) (hv:v=f x) (hn:s.length<=1000000):∃w',(Instr.mapUpdate 99 (.map (some b)) (.int .i64 x) (.agg #[.bool v])).run Tryz.prog w=.ok () w'/\za1 w' b f (if x∈s then s else x::s)/\w.grownBy w' (some b):=by
 obtain ⟨D,hown,hD⟩:=h
 obtain ⟨w',hr,h1,h2⟩:=kO (val:=.agg #[.bool v]) (d:=.lit (.bool v)) (ps:=[]) hown zaS Tryz.underlying99 (show s.length<maxLen by unfold maxLen;omega) (zci hx) rfl
 have hsz:=size_put (hown.tidy zaS) (k:=.int .i64 x) (DataW.lit (.bool v))
 have hle:=hown.size_le
 refine ⟨w',hr,⟨_,(zhc h1).mono ?_,fun y hy=>?_⟩,h2⟩
 ·rw[hsz,(hD x hx).1]
  by_cases e:x∈s
  ·rw[if_pos (qD e),if_pos e];exact hle
  ·rw[if_neg (by rw[qE e];simp),if_neg e,jX];omega
 ·have hmem:(y∈(if x∈s then s else x::s))↔y=x\/y∈s:=by
   by_cases e:x∈s
   ·rw[if_pos e]
    exact ⟨Or.inr,fun q=>q.elim (fun z=>by rw[z];exact e) id⟩
   ·rw[if_neg e,kB]
  by_cases e:x=y
  ·subst e
   rw[has_put_same hown.isMap (zaS.key (zci hx)),atKey_put_same hown.isMap (zaS.key (zci hx)),hv]
   exact ⟨(qD (hmem.2 (Or.inl rfl))).symm,fun _=>rfl⟩
  ·have hk:(Lit.int .i64 y)≠Lit.int .i64 x:=fun q=>by injection q with _ q;exact e q.symm
   obtain ⟨q1,q2⟩:=hD y hy
   rw[has_put_other hk,q1,atKey_put_other hk]
   refine ⟨?_,fun q=>q2 ?_⟩
   ·by_cases hm:y∈s
    ·rw[qD hm,qD (hmem.2 (Or.inr hm))]
    ·rw[qE hm,qE (fun q=>by rcases hmem.1 q with q | q;exact e q.symm;exact hm q)]
   ·rcases hmem.1 q with q | q
    ·exact absurd q.symm e
    ·exact q
def Ls (ns:List Nd):List Int:=(List.range ns.length).map Int.ofNat
theorem zf5 (ns:List Nd):(Ls ns).length=ns.length:=by simp[Ls]
theorem zfs {ns:List Nd} {n:Int}:n∈Ls ns↔zac ns n:=by
 unfold Ls zac
 rw[yN]
 constructor
 ·rintro ⟨k,hk,rfl⟩
  have:=List.mem_range.1 hk
  exact ⟨Int.natCast_nonneg _,Int.ofNat_lt.2 this⟩
 ·rintro ⟨h0,h1⟩
  exact ⟨n.toNat,List.mem_range.2 (by omega),by show ((n.toNat:Nat):Int)=n;omega⟩
theorem zoa:∀n:Nat,Up ((List.range n).map Int.ofNat)
 | 0=>List.Pairwise.nil
 | n+1=>by
  rw[kF,jE]
  refine List.pairwise_append.2 ⟨zoa n,kR _ _,fun a ha b hb=>?_⟩
  obtain ⟨k,hk,rfl⟩:=List.mem_map.1 ha
  have h1:b=Int.ofNat n:=by simpa using hb
  have:=List.mem_range.1 hk
  rw[h1]
  exact Int.ofNat_lt.2 this
theorem zjl (ns:List Nd):Up (Ls ns):=zoa ns.length
theorem zsL {ns:List Nd} (more:List Nd):∀n∈Ls ns,n∈Ls (ns++more):=fun n hn=>zfs.2 ((zfs.1 hn).up more)
theorem zbf.inF {ns:List Nd} {f:Fm} (h:zbf (Ls ns) f):InF ns f:=fun p hp n hn=>zfs.1 (h.inn p hp n hn)
theorem zbf.up {ns:List Nd} {f:Fm} (h:zbf (Ls ns) f) (more:List Nd):zbf (Ls (ns++more)) f:=h.mono (zsL more)
structure LP where
 gw:Nat
 mf:Nat
 ml:Nat
 mn:Nat
 a:Value
 b:Nat
 bt:Nat
 before:Nat
 y:Nat->Prop
def XB (p:LP) (F:Nat->Prop) (x:Nat):Prop:=F x\/x=p.gw\/x=p.mf\/x=p.ml\/x=p.mn
def XY (p:LP) (F:Nat->Prop) (x:Nat):Prop:=XB p F x\/p.y x
theorem OffF.wide {F F':Nat->Prop} {w w':World} (h:OffF F w w') (hs:∀b,F b->F' b):OffF F' w w':=⟨h.os,h.tape,h.output,h.size,fun b hb hn=>h.block b hb (fun q=>hn (hs b q))⟩
theorem OffF.xy {p:LP} {F:Nat->Prop} {w w':World} (h:OffF (XB p F) w w'):OffF (XY p F) w w':=h.wide (fun b q=>Or.inl q)
structure zki (X:Nat->Prop) (w:World) (m:Nat) (ns:List Nd) (many:Bool) (R:Int->Fm->Prop):Prop where
 ex:∃s get,ziq w m s get/\∀x∈s,zac ns x/\∃f,zaJ X w (get x) f/\zbf (Ls ns) f/\(many=false->R x f)
def zir (w:World) (m:Nat) (ns:List Nd) (bt:Nat):Prop:=∃s,za1 w m (zan ns bt) s/\s.Nodup/\∀z∈s,zac ns z
def lwC (p:LP) (many:Bool):Array Value:=#[p.a,.int .u8 p.b,.int .u8 p.bt,.map (some p.mf),.map (some p.ml),.map (some p.mn),.int .i64 p.before,.bool many]
structure LW (p:LP) (w:World) (ns:List Nd) (F:Nat->Prop) (many:Bool):Prop where
 ar:AA w p.a ns F
 box:At w p.gw 101 (lwC p many)
 fo:zki (XY p F) w p.mf ns many (fun x f=>OfR ns x ns f)
 le:zki (XY p F) w p.ml ns many (fun x f=>zbF ns x p.b p.bt ns f)
 nu:zir w p.mn ns p.bt
 d:p.gw≠p.mf/\p.gw≠p.ml/\p.gw≠p.mn/\p.mf≠p.ml/\p.mf≠p.mn/\p.ml≠p.mn
 out:¬F p.gw/\¬F p.mf/\¬F p.ml/\¬F p.mn
 b8:p.b<256/\p.bt<256
 ylow:∀b,p.y b->b<w.heap.size
theorem zob {ns:List Nd} {bt:Nat} {x:Int} (hx:zac ns x) (more:List Nd):zan (ns++more) bt x=zan ns bt x:=by
 have h1:=hx
 have h2:=hx.up more
 unfold zac at h1 h2
 unfold zan
 rw[zav [] [bt] more hx,qD h1,qD h2]
section
variable {p:LP} {w w':World} {ns:List Nd} {F F':Nat->Prop} {many:Bool}
theorem LW.lts (h:LW p w ns F many):p.gw<w.heap.size/\p.mf<w.heap.size/\p.ml<w.heap.size/\p.mn<w.heap.size:=by
 obtain ⟨s,get,h1,_⟩:=h.fo.ex
 obtain ⟨s2,get2,h2,_⟩:=h.le.ex
 obtain ⟨s3,h3,_⟩:=h.nu
 exact ⟨h.box.lt,h1.lt,h2.lt,h3.lt⟩
theorem LW.low (h:LW p w ns F many):∀b,XB p F b->b<w.heap.size:=fun b q=>by
 obtain ⟨h1,h2,h3,h4⟩:=h.lts
 rcases q with q | rfl | rfl | rfl | rfl
 ·exact h.ar.low b q
 ·exact h1
 ·exact h2
 ·exact h3
 ·exact h4
theorem LW.lowY (h:LW p w ns F many):∀b,XY p F b->b<w.heap.size:=fun b q=>q.elim (h.low b) (h.ylow b)
theorem LW.few (h:LW p w ns F many):ns.length<=20000:=zd9.max h.ar
theorem LW.fine (h:LW p w ns F many):zaA ns:=zd9.fine h.ar
theorem zaJ.at {X:Nat->Prop} {w:World} {v:Value} {f:Fm} (h:zaJ X w v f):∃A c,v=.slice A f.length c:=by
 obtain ⟨A,c,e,_⟩:=h.here
 exact ⟨A,c,e⟩
theorem zki.up {X X':Nat->Prop} {m:Nat} {R R':Int->Fm->Prop} (h:zki X w m ns many R) (hb:w'.heap[m]?=w.heap[m]?) (ho:OffF X w w') (hX:∀b,X' b->X b\/w.heap.size<=b) (more:List Nd) (hR:∀x f,zac ns x->zbf (Ls ns) f->R x f->R' x f):zki X' w' m (ns++more) many R':=by
 obtain ⟨s,get,h1,h2⟩:=h.ex
 refine ⟨s,get,h1.kept hb,fun x hx=>?_⟩
 obtain ⟨i,f,k1,k2,k3⟩:=h2 x hx
 exact ⟨i.up more,f,k1.step ho hX,k2.up more,fun q=>hR x f i k2 (k3 q)⟩
theorem zuj {ns:List Nd} {x:Int} {f:Fm} (hx:zac ns x) (hi:zbf (Ls ns) f) (more:List Nd) (h:OfR ns x ns f):OfR (ns++more) x (ns++more) f:=by
 unfold OfR
 rw[zez hx]
 exact Den.up h hi.inF more
theorem zqm {ns:List Nd} {x:Int} {b bt:Nat} {f:Fm} (hx:zac ns x) (hi:zbf (Ls ns) f) (more:List Nd) (h:zbF ns x b bt ns f):zbF (ns++more) x b bt (ns++more) f:=by
 unfold zbF
 rw[zez hx]
 exact Den.up h hi.inF more
theorem zir.up {m bt:Nat} (h:zir w m ns bt) (hb:w'.heap[m]?=w.heap[m]?) (more:List Nd):zir w' m (ns++more) bt:=by
 obtain ⟨s,⟨D,h1,h2⟩,h3,h4⟩:=h
 refine ⟨s,za1.kept ⟨D,h1,fun x hx=>⟨(h2 x hx).1,fun q=>?_⟩⟩ hb,h3,fun z hz=>(h4 z hz).up more⟩
 rw[zob (h4 x q) more]
 exact (h2 x hx).2 q
theorem LW.grow (h:LW p w ns F many) {more:List Nd} (hA:AA w' p.a (ns++more) F') (hF:∀b,F' b->F b\/w.heap.size<=b) (ho:OffF F w w'):LW p w' (ns++more) F' many:=by
 obtain ⟨l1,l2,l3,l4⟩:=h.lts
 obtain ⟨o1,o2,o3,o4⟩:=h.out
 have hX:∀b,XY p F' b->XY p F b\/w.heap.size<=b:=fun b q=>by
  rcases q with (q | q) | q
  ·exact (hF b q).imp (fun z=>Or.inl (Or.inl z)) id
  ·exact Or.inl (Or.inl (Or.inr q))
  ·exact Or.inl (Or.inr q)
 have hO:OffF (XY p F) w w':=ho.wide (fun b q=>Or.inl (Or.inl q))
 refine ⟨hA,(ho.block _ l1 o1).trans h.box,h.fo.up (ho.block _ l2 o2) hO hX more (fun x f hx hi q=>zuj hx hi more q),h.le.up (ho.block _ l3 o3) hO hX more (fun x f hx hi q=>zqm hx hi more q),h.nu.up (ho.block _ l4 o4) more,h.d,⟨fun q=>?_,fun q=>?_,fun q=>?_,fun q=>?_⟩,h.b8,fun b q=>qM (h.ylow b q) ho.size⟩
 ·exact (hF _ q).elim o1 (fun z=>by omega)
 ·exact (hF _ q).elim o2 (fun z=>by omega)
 ·exact (hF _ q).elim o3 (fun z=>by omega)
 ·exact (hF _ q).elim o4 (fun z=>by omega)
theorem LW.next (h:LW p w ns F many) (hb:Below w.heap.size w w'):LW p w' ns F many:=by
 have:=h.grow (more:=[]) (F':=F) (by rw[jA];exact h.ar.next hb) (fun b q=>Or.inl q) (OffF.of hb)
 rwa [jA] at this
theorem zsM (p:LP) (many many':Bool):(lwC p many).setIfInBounds 7 (.bool many')=lwC p many':=rfl
theorem LW.setMany (h:LW p w ns F many) (many':Bool) (hm:many=true->many'=true):LW p (w.setCell ⟨p.gw,7,none⟩ (.bool many')) ns F many':=by
 obtain ⟨d1,d2,d3,d4⟩:=h.d
 have ho:OffF (XB p F) w (w.setCell ⟨p.gw,7,none⟩ (.bool many')):=(OffF.of (qT _ w)).set (Or.inr (Or.inl rfl)) _
 have hb:∀b,b≠p.gw->(w.setCell ⟨p.gw,7,none⟩ (.bool many')).heap[b]?=w.heap[b]?:=fun b hb=>jL w ⟨p.gw,7,none⟩ _ b hb
 have hk:∀{m:Nat} {R:Int->Fm->Prop},p.gw≠m->zki (XY p F) w m ns many R->zki (XY p F) (w.setCell ⟨p.gw,7,none⟩ (.bool many')) m ns many' R:=fun {m R} hne k=>by
  obtain ⟨s,get,h1,h2⟩:=k.ex
  refine ⟨s,get,h1.kept (hb _ (fun e=>hne e.symm)),fun x hx=>?_⟩
  obtain ⟨i,f,k1,k2,k3⟩:=h2 x hx
  exact ⟨i,f,k1.step ho.xy (fun b q=>Or.inl q),k2,fun q=>k3 (by cases many with | false=>rfl | true=>rw[hm rfl] at q;cases q)⟩
 refine ⟨h.ar.keep (fun b q=>hb b (fun e=>h.out.1 (by rw[<-e];exact q))),by have:=h.box.set 7 (.bool many');rwa [zsM] at this,hk d1 h.fo,hk d2 h.le,?_,h.d,h.out,h.b8,fun b q=>by rw[jC];exact h.ylow b q⟩
 obtain ⟨s,k1,k2⟩:=h.nu
 exact ⟨s,k1.kept (hb _ (fun e=>d3 e.symm)),k2⟩
end
structure za8 (p:LP) (w:World) (ns:List Nd) (F:Nat->Prop) (many:Bool) (w1:World) (ns1:List Nd) (F1:Nat->Prop) (many1:Bool):Prop where
 more:∃m,ns1=ns++m
 lw:LW p w1 ns1 F1 many1
 low:∀b,F1 b->F b\/w.heap.size<=b
 off:OffF (XB p F) w w1
 mono:many=true->many1=true
section
variable {p:LP} {w w1 w2:World} {ns ns1 ns2:List Nd} {F F1 F2:Nat->Prop} {many many1 many2:Bool}
theorem za8.refl (h:LW p w ns F many):za8 p w ns F many w ns F many:=⟨⟨[],(jA _).symm⟩,h,fun b q=>Or.inl q,OffF.of (qT _ _),id⟩
theorem za8.size (g:za8 p w ns F many w1 ns1 F1 many1):w.heap.size<=w1.heap.size:=g.off.size
theorem za8.xlow (g:za8 p w ns F many w1 ns1 F1 many1):∀b,XB p F1 b->XB p F b\/w.heap.size<=b:=fun b q=>by
 rcases q with q | q
 ·exact (g.low b q).imp Or.inl id
 ·exact Or.inl (Or.inr q)
theorem za8.xylow (g:za8 p w ns F many w1 ns1 F1 many1):∀b,XY p F1 b->XY p F b\/w.heap.size<=b:=fun b q=>by
 rcases q with q | q
 ·exact (g.xlow b q).imp Or.inl id
 ·exact Or.inl (Or.inr q)
theorem za8.trans (g:za8 p w ns F many w1 ns1 F1 many1) (g2:za8 p w1 ns1 F1 many1 w2 ns2 F2 many2):za8 p w ns F many w2 ns2 F2 many2:=by
 obtain ⟨m,rfl⟩:=g.more
 obtain ⟨m2,rfl⟩:=g2.more
 refine ⟨⟨m++m2,by rw[jQ]⟩,g2.lw,fun b q=>?_,g.off.off g2.off g.xlow,fun q=>g2.mono (g.mono q)⟩
 rcases g2.low b q with c | c
 ·exact g.low b c
 ·exact Or.inr (qH g.size c)
theorem za8.next (g:za8 p w ns F many w1 ns1 F1 many1) (hb:Below w1.heap.size w1 w2):za8 p w ns F many w2 ns1 F1 many1:=⟨g.more,g.lw.next hb,g.low,g.off.then hb,g.mono⟩
theorem za8.of (h:LW p w ns F many) (hb:Below w.heap.size w w1):za8 p w ns F many w1 ns F many:=(za8.refl h).next hb
theorem zaJ.grow {v:Value} {f:Fm} (h:zaJ (XY p F) w v f) (g:za8 p w ns F many w1 ns1 F1 many1):zaJ (XY p F1) w1 v f:=h.step g.off.xy g.xylow
theorem za8.isIn (g:za8 p w ns F many w1 ns1 F1 many1) {x:Int} (h:zac ns x):zac ns1 x:=by obtain ⟨m,rfl⟩:=g.more;exact h.up m
theorem za8.fm (g:za8 p w ns F many w1 ns1 F1 many1) {f:Fm} (h:zbf (Ls ns) f):zbf (Ls ns1) f:=by obtain ⟨m,rfl⟩:=g.more;exact h.up m
theorem za8.den (g:za8 p w ns F many w1 ns1 F1 many1) {V:List Nat->List Nat->Nat->Nat->Prop} {s:Nat} {val:List Nat->List Nat->Nat->Nat->Bool} {f:Fm} (hi:zbf (Ls ns) f) (h:Den V s val ns f):Den V s val ns1 f:=by obtain ⟨m,rfl⟩:=g.more;exact h.up hi.inF m
theorem Got.grow {R:List Nd->Int->Prop} {e:Ending} (h:LW p w ns F many) (g:Got AA w p.a ns F R e w1):∃r ns1 F1,e=.returned (.int .i64 r)/\za8 p w ns F many w1 ns1 F1 many/\(r=-1\/(Go.Proofs.YtdmodhnhldbpnaaGreat.zac ns1 r/\R ns1 r)):=by
 obtain ⟨r,more,F',g0,g1,g2,g3,g4⟩:=g
 exact ⟨r,_,F',g0,⟨⟨more,rfl⟩,h.grow g1 g2 g3,g2,⟨g3.os,g3.tape,g3.output,g3.size,fun b hb hn=>g3.block b hb (fun z=>hn (Or.inl z))⟩,id⟩,g4⟩
theorem zaZ.keeps {v:Value} {f:Fm} (h:LW p w ns F many) (hf:zaZ w.heap.size w1 v f):zaJ (XY p F) w1 v f:=fun w' ho=>hf w' (fun b b1 b2=>ho.block b b2 (fun q=>by have:=h.lowY b q;omega)) ho.size
end
theorem zaJ.less {X X':Nat->Prop} {w:World} {v:Value} {f:Fm} (h:zaJ X w v f) (hx:∀b,X' b->X b):zaJ X' w v f:=fun w' q=>h w' (q.wide hx)
theorem zki.mono {X X':Nat->Prop} {w w':World} {m:Nat} {ns:List Nd} {many:Bool} {R:Int->Fm->Prop} (h:zki X w m ns many R) (hb:w'.heap[m]?=w.heap[m]?) (hk:∀v f,zaJ X w v f->zaJ X' w' v f):zki X' w' m ns many R:=by
 obtain ⟨s,get,h1,h2⟩:=h.ex
 refine ⟨s,get,h1.kept hb,fun x hx=>?_⟩
 obtain ⟨i,f,k1,k2⟩:=h2 x hx
 exact ⟨i,f,hk _ _ k1,k2⟩
section
variable {p:LP} {w w':World} {ns:List Nd} {F:Nat->Prop} {many:Bool}
theorem LW.addY (h:LW p w ns F many) (hb:Below w.heap.size w w') (y':Nat->Prop) (hy:∀b,y' b->p.y b\/(w.heap.size<=b/\b<w'.heap.size)):LW {p with y:=y'} w' ns F many:=by
 have h1:=h.next hb
 have hk:∀v f,zaJ (XY p F) w v f->zaJ (XY {p with y:=y'} F) w' v f:=fun v f k=>k.step (OffF.of hb) (fun b q=>by
  rcases q with q | q
  ·exact Or.inl (Or.inl q)
  ·exact (hy b q).imp Or.inr (fun z=>z.1))
 refine ⟨h1.ar,h1.box,h.fo.mono (hb.block _ h.lts.2.1) hk,h.le.mono (hb.block _ h.lts.2.2.1) hk,h1.nu,h.d,h.out,h.b8,fun b q=>?_⟩
 rcases hy b q with q | q
 ·exact h1.ylow b q
 ·exact q.2
theorem LW.lessY {y':Nat->Prop} (h:LW {p with y:=y'} w ns F many) (hy:∀b,p.y b->y' b):LW p w ns F many:=by
 have hk:∀v f,zaJ (XY {p with y:=y'} F) w v f->zaJ (XY p F) w v f:=fun v f k=>k.less (fun b q=>q.imp id (hy b))
 exact ⟨h.ar,h.box,h.fo.mono rfl hk,h.le.mono rfl hk,h.nu,h.d,h.out,h.b8,fun b q=>h.ylow b (hy b q)⟩
theorem LW.turnY (h:LW p w ns F many) {row:Option Nat} (hg:w.grownBy w' row) (hr:∀b,row=some b->p.y b/\¬XB p F b):LW p w' ns F many:=by
 obtain ⟨l1,l2,l3,l4⟩:=h.lts
 have hblk:∀b,XB p F b->w'.heap[b]?=w.heap[b]?:=fun b q=>hg.block b (h.low b q) (fun e=>(hr b e.symm).2 q)
 have ho:OffF (XY p F) w w':=⟨hg.os,hg.tape,hg.output,hg.size,fun b hb hn=>hg.block b hb (fun e=>hn (Or.inr (hr b e.symm).1))⟩
 have hk:∀v f,zaJ (XY p F) w v f->zaJ (XY p F) w' v f:=fun v f k=>k.step ho (fun b q=>Or.inl q)
 obtain ⟨s,k1,k2⟩:=h.nu
 exact ⟨h.ar.keep (fun b q=>hblk b (Or.inl q)),(hblk _ (Or.inr (Or.inl rfl))).trans h.box,h.fo.mono (hblk _ (Or.inr (Or.inr (Or.inl rfl)))) hk,h.le.mono (hblk _ (Or.inr (Or.inr (Or.inr (Or.inl rfl))))) hk,⟨s,k1.kept (hblk _ (Or.inr (Or.inr (Or.inr (Or.inr rfl))))),k2⟩,h.d,h.out,h.b8,fun b q=>qM (h.ylow b q) hg.size⟩
end
def za9 (p:LP) (w:World) (ns:List Nd) (F:Nat->Prop) (many:Bool) (R:List Nd->Fm->Prop) (e:Ending) (w1:World):Prop :=
 ∃(v:Value) (f:Fm) (ns1:List Nd) (F1:Nat->Prop) (many1:Bool),e=.returned v/\za8 p w ns F many w1 ns1 F1 many1/\zaJ (XY p F1) w1 v f/\zbf (Ls ns1) f/\(many1=false->R ns1 f)
section
variable {p:LP} {w w1 w2:World} {ns ns1:List Nd} {F F1:Nat->Prop} {many many1:Bool} {R R':List Nd->Fm->Prop} {e:Ending}
theorem za9.mono (h:za9 p w ns F many R e w1) (hR:∀more f,zaA (ns++more)->zbf (Ls (ns++more)) f->R (ns++more) f->R' (ns++more) f):za9 p w ns F many R' e w1:=by
 obtain ⟨v,f,ns1,F1,many1,h0,h1,h2,h3,h4⟩:=h
 obtain ⟨m,rfl⟩:=h1.more
 exact ⟨v,f,_,F1,many1,h0,h1,h2,h3,fun q=>hR m f h1.lw.fine h3 (h4 q)⟩
theorem za9.done {v:Value} {f:Fm} (g:za8 p w ns F many w1 ns1 F1 many1) (hk:zaJ (XY p F1) w1 v f) (hi:zbf (Ls ns1) f) (hR:many1=false->R ns1 f):za9 p w ns F many R (.returned v) w1:=⟨v,f,ns1,F1,many1,rfl,g,hk,hi,hR⟩
end
end
end Go.Proofs.YtdmodhnhldbpnaaGreat
