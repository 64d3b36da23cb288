/- Joined: Judge, FormMass, BuildLv, GlIs. -/
import Derived.Test.YtdmodhnhldbpnaaGreatMaw
import Derived.Test.YtdmodhnhldbpnaaGreatTreeSize
import Derived.Test.YtdmodhnhldbpnaaGreatMzz
import Derived.Test.YtdmodhnhldbpnaaGreatMay
import Derived.Test.YtdmodhnhldbpnaaGreatMau
import Derived.Test.YtdmodhnhldbpnaaGreatMac
import Derived.Test.YtdmodhnhldbpnaaGreatMat
import Derived.Test.YtdmodhnhldbpnaaGreatAid
/- parse.judge and tree.Clone. -/
set_option linter.unusedSimpArgs false
set_option linter.unusedVariables false
set_option maxHeartbeats 16000000
set_option maxRecDepth 100000
namespace Go.Proofs.YtdmodhnhldbpnaaGreat
section
open Go.RowKit
theorem znU {w:World}:∀(k m:Nat) (t:Tr),Tr.In w m t->Tr.Sol w k t->Tr.In w k t->Tr.Sol w m t
 | _,0,_,h,_,_=>h.elim
 | 0,_+1,_,_,_,h=>h.elim
 | k+1,m+1,t,h,hs,h'=>⟨hs.1,fun p hp=>by
   obtain ⟨j,hj,rfl⟩:=yT hp
   exact znU k m _ (h.2.2.2 j hj) (hs.2 _ hp) (h'.2.2.2 j hj)⟩
theorem zt7 (t:Tr) (w:World) (h:Tr.Ins w 40 t) (hs:zeP 40 t) (hm:zcO 40 t<=4000000) :
  Calls Tryz.prog 50 #[.agg t.cs.toArray] w (zsA (fun k t=>Tr.strip k t) 40 t w):=by
 obtain ⟨w2,hw2⟩:∃w2,w2=(w.alloc (.cells t.cs.toArray 49)).alloc (.cells #[.int .i64 0,.int .u64 0,.int .u64 0,.int .u64 0,.int .u64 0,.slice none 0 0,.int .i64 0,.int .i64 0,.bool false] 49):=⟨_,rfl⟩
 have HA0:Hid (At w2 w.heap.size 49 t.cs.toArray):=zqh (by rw[hw2];exact (At.new _ _ _).alloc _)
 have HZ0:Hid (At w2 (w.heap.size+1) 49 Tr.blank.cs.toArray):=zqh (by rw[hw2];exact zjx (w.alloc (.cells t.cs.toArray 49)) (w.heap.size+1) 49 (cs:=Tr.blank.cs.toArray) (by simp))
 have HB0:Hid (Below w.heap.size w w2):=zqh (by rw[hw2];exact ziR _ _)
 have HW2:=zqh hw2
 have hA:At ((w.alloc (.cells t.cs.toArray 49)).alloc (.cells #[.int .i64 0,.int .u64 0,.int .u64 0,.int .u64 0,.int .u64 0,.slice none 0 0,.int .i64 0,.int .i64 0,.bool false] 49)) w.heap.size 49 t.cs.toArray:=(At.new _ _ _).alloc _
 have HI:=zqh (h.next HB0.out)
 have HSL:=zqh hs
 have HM:=zqh hm
 clear hw2 h hs hm
 go_enter Tryz.func50,Tryz.ntmps50
 go_wp2_with (first | (refine jU rfl 49 _ rfl w.heap.size rfl 49 t.cs.toArray (0,0) _ hA Tryz.underlying49 rfl (by kernel_rfl) ?_) | fail)
 rw[<-HW2.out]
 clear hA
 refine (zu6 40 t w2 HI.out HM.out).mono ?_
 rintro e w3 ⟨d,rfl,hd1,hd2,hd3,hb3⟩
 have hdd:¬(40:Int)<(d:Int):=by omega
 have HA3:=zqh (At.below HA0.out hb3 HA0.out.lt)
 have HZ3:=zqh (At.below HZ0.out hb3 HZ0.out.lt)
 have HI3:=zqh (HI.out.next hb3)
 have HB3:=zqh (HB0.out.trans (hb3.mono HB0.out.size))
 clear hd1 hd2 hd3 hb3
 go_wp2_with (first | (refine jU rfl 49 _ rfl w.heap.size rfl 49 t.cs.toArray (0,0) _ HA3.out Tryz.underlying49 rfl (by kernel_rfl) ?_) | fail)
 refine (zq7 40 t w3 HI3.out.1 HSL.out).mono ?_
 rintro e w4 ⟨t2,rfl,hin,hfr,hst,hb4⟩
 have HZ4:=zqh (At.below HZ3.out hb4 HZ3.out.lt)
 have HB4:=zqh (HB3.out.trans (hb4.mono HB3.out.size))
 have HIn:=zqh hin
 have HF4:=zqh hfr
 have HST:=zqh hst
 have HSz:Hid (w.heap.size+2<=w3.heap.size):=zqh HZ3.out.lt
 have hone:=Tr.one t2
 clear hin hfr hst hb4
 go_wp2_with (first
  |(with_reducible show wpList _ _ _ (⟨none,.store _ _ _,_,_,_,_⟩::_) _ _
    refine qN rfl 49 _ _ rfl (w.heap.size+1) t2.cs.toArray rfl rfl 49 Tr.blank.cs.toArray HZ4.out (by kernel_rfl) rfl hone ?_) | fail)
 have ho:zfN (w.heap.size+1) w4 (w4.setRow (w.heap.size+1) t2.cs.toArray):=zfN.row _ _ _
 exact yD (results_cell_row Tryz.results50 _ _ (w.heap.size+1) 49 t2.cs.toArray (0,0) _ rfl (HZ4.out.row _) Tryz.underlying49 rfl (by kernel_rfl)) rfl ⟨t2,rfl,HIn.out.only HF4.out ho (by have:=HSz.out;omega),HF4.out.lower (by have:=HSz.out;omega),HST.out,HB4.out.trans (ho.below (by omega))⟩
end

section
open Go.RowKit
theorem znV (k:Nat):∀(l:List Tr),(∀p∈l,1<=zam k p)->(∀p∈l,zam k p<=1000->(zcO k p:Int)<=zam k p)->zb3 (l.map (zam k))<=1000->((l.map (zcO k)).sum:Int)<=zb3 (l.map (zam k)):=by
 have key:∀r:List Tr,(∀p∈r,1<=zam k p)->(∀p∈r,zam k p<=1000->(zcO k p:Int)<=zam k p)->zb3 (r.map (zam k)).reverse<=1000->((r.map (zcO k)).sum:Int)<=zb3 (r.map (zam k)).reverse:=fun r=>by
  induction r with
  | nil=>exact fun _ _ _=>by show (0:Int)<=zb3 [];exact gE 0
  | cons a r ih =>
   intro h0 h1 h2
   have em:((a::r).map (zam k)).reverse=(r.map (zam k)).reverse++[zam k a]:=by rw[jW,List.reverse_cons]
   rw[em,zeT] at h2 ⊢
   have hge:0<=zb3 (r.map (zam k)).reverse:=zeu _ (fun x hx=>by
    rw[List.mem_reverse,yN] at hx
    obtain ⟨p,_,rfl⟩:=hx
    exact zcA k p)
   have ha:=h0 a (by simp)
   have hc:¬1001<zb3 (r.map (zam k)).reverse+zam k a:=fun q=>by rw[zaw q] at h2;omega
   rw[zaB hc] at h2 ⊢
   have h3:=ih (fun p hp=>h0 p (qX _ hp)) (fun p hp=>h1 p (qX _ hp)) (by omega)
   have h4:=h1 a (by simp) (by omega)
   rw[jW,kM]
   omega
 intro l h0 h1 h2
 have h5:(l.reverse.map (zam k)).reverse=l.map (zam k):=by rw[List.map_reverse,List.reverse_reverse]
 have h6:(l.reverse.map (zcO k)).sum=(l.map (zcO k)).sum:=by rw[List.map_reverse,List.sum_reverse]
 have:=key l.reverse (fun p hp=>h0 p (by simpa using hp)) (fun p hp=>h1 p (by simpa using hp)) (by rw[h5];exact h2)
 rw[h5,h6] at this
 exact this
theorem zjf:∀(k:Nat) (t:Tr),Tr.Lv k t->zam k t<=1000->(zcO k t:Int)<=zam k t
 | 0,_,h,_=>h.elim
 | k+1,t,hl,h=>by
  have hs:=zqa h
  have h0:0<=zb3 (t.parts.map (zam k)):=by
   have:=zeU k t t.parts.length
   unfold zb6 at this
   rwa [qQ] at this
  have h1:=znV k t.parts (fun p hp=>zp9 k p (hl p hp)) (fun p hp q=>zjf k p (hl p hp) q) (by omega)
  have h':zal ((if t.kind=7 then zb3 (t.parts.map (zam k))*zaC t.lo t.hi else zb3 (t.parts.map (zam k)))+1)<=1000:=h
  have h2:zb3 (t.parts.map (zam k))+1<=zal ((if t.kind=7 then zb3 (t.parts.map (zam k))*zaC t.lo t.hi else zb3 (t.parts.map (zam k)))+1):=by
   have hm:zb3 (t.parts.map (zam k))*1<=zb3 (t.parts.map (zam k))*zaC t.lo t.hi:=Int.mul_le_mul_of_nonneg_left (zje _ _) h0
   rw[Int.mul_one] at hm
   unfold zal at h' ⊢
   (repeat' split at h')<;>(repeat' split)<;>omega
  show ((1+(t.parts.map (zcO k)).sum:Nat):Int)<=_
  have h3:zam (k+1) t=zal ((if t.kind=7 then zb3 (t.parts.map (zam k))*zaC t.lo t.hi else zb3 (t.parts.map (zam k)))+1):=rfl
  rw[h3]
  omega
theorem znW:∀(k m:Nat) (t:Tr),Tr.Lv k t->zbj k m t<=m->Tr.Lv m t
 | 0,_,_,h,_=>h.elim
 | k+1,m,t,h,hd=>by
  have h1:1<=m:=by
   rcases Nat.eq_zero_or_pos m with q | q
   ·subst q
    have:zbj (k+1) ((0:Nat):Int) t=1:=by show (if ((0:Nat):Int)<1 then 1 else _)=1;rw[if_pos (by decide)]
    omega
   ·exact q
  obtain ⟨m',rfl⟩:∃m',m=m'+1:=⟨m-1,by omega⟩
  intro p hp
  obtain ⟨j,hj,rfl⟩:=yT hp
  have:=(ziF hd hj).2
  have e:((m'+1:Nat):Int)-1=(m':Int):=by omega
  rw[e] at this
  exact znW k m' _ (h _ hp) this
theorem zgX.lv40 {t:Tr} (h:zgX t):Tr.Lv 40 t/\zaH 40 t=true:=by
 obtain ⟨k,hl,hf⟩:=id h
 have h40:Tr.Lv 40 t:=znW k 40 t hl (zfj hf)
 exact ⟨h40,h.at h40⟩
end

section
open Go.RowKit
theorem zq8 {β:Type} (f:Nat->Tr->β) (hf:∀k t,Tr.Lv k t->f (k+1) t=f k t) {a b:Nat} {t:Tr} (ha:Tr.Lv a t) (hb:Tr.Lv b t):f a t=f b t:=by
 have key:∀d a,Tr.Lv a t->f (a+d) t=f a t/\Tr.Lv (a+d) t:=fun d=>by
  induction d with
  | zero=>exact fun a h=>⟨rfl,h⟩
  | succ d ih=>exact fun a h=>⟨(hf (a+d) t (ih a h).2).trans (ih a h).1,Tr.Lv.up _ _ (ih a h).2⟩
 rcases Nat.le_total a b with q | q
 ·obtain ⟨d,rfl⟩:=Nat.exists_eq_add_of_le q
  exact (key d a ha).1.symm
 ·obtain ⟨d,rfl⟩:=Nat.exists_eq_add_of_le q
  exact (key d b hb).1
theorem zjg (l:List Nat):∀(k:Nat) (t:Tr),Tr.Lv k t->zae l (k+1) t=zae l k t
 | 0,_,h=>h.elim
 | k+1,t,h=>by
  have e:t.parts.map (zae l (k+1))=t.parts.map (zae l k):=zec (fun p hp=>zjg l k p (h p hp))
  rw[zae.eq_def l (k+1+1) t,zae.eq_def l (k+1) t]
  simp only[e]
theorem zk7:∀(k:Nat) (t:Tr),Tr.Lv k t->zaY (k+1) t=zaY k t
 | 0,_,h=>h.elim
 | k+1,t,h=>by
  have e:t.parts.map (zaY (k+1))=t.parts.map (zaY k):=zec (fun p hp=>zk7 k p (h p hp))
  have e2:t.parts.any (zaY (k+1))=t.parts.any (zaY k):=by
   have:=congrArg (fun m:List Bool=>m.any id) e
   simpa [List.any_map,Function.comp_def] using this
  show (decide (8<=t.kind)||t.parts.any (zaY (k+1)))=(decide (8<=t.kind)||t.parts.any (zaY k))
  rw[e2]
theorem zgY:∀(k:Nat) (a b:Tr),a.strip k=b.strip k->zaY k a=zaY k b
 | 0,_,_,_=>rfl
 | k+1,a,b,h=>by
  have hp:=zdk h
  have e:a.parts.map (zaY k)=b.parts.map (zaY k):=zeV (fun x y=>zgY k x y) hp.2.2.2.2.2.2
  have e2:a.parts.any (zaY k)=b.parts.any (zaY k):=by
   have:=congrArg (fun m:List Bool=>m.any id) e
   simpa [List.any_map,Function.comp_def] using this
  show (decide (8<=a.kind)||a.parts.any (zaY k))=(decide (8<=b.kind)||b.parts.any (zaY k))
  rw[e2,hp.1]
end

section
open Go.RowKit Go.Shelf
theorem zk8:∀(k m:Nat) (t:Tr),Tr.Lv k t->zeP k t->zeP m t
 | 0,_,_,h,_=>h.elim
 | _+1,0,_,_,_=>trivial
 | k+1,m+1,t,h,hs=>⟨hs.1,fun p hp=>zk8 k m p (h p hp) (hs.2 p hp)⟩
theorem znX {w:World} {k:Nat} {t:Tr} (h:Tr.Ins w k t) (hs:zeP k t) (hf:zaH k t=true):Tr.Ins w 40 t/\zeP 40 t/\zcO 40 t<=4000000/\zah 40 t=true/\Tr.Lv 40 t/\zaH 40 t=true:=by
 have hlv:=h.1.lv
 have hT:zgX t:=⟨k,hlv,hf⟩
 obtain ⟨l40,f40⟩:=hT.lv40
 have h40:=znT k 40 t h.1 (zfj hf)
 have f40':=f40
 unfold zaH at f40'
 rw[qR,qR] at f40'
 have hsz:zam 40 t<=1000:=by
  have:=jB f40'.2.2
  omega
 have hm:=zjf 40 t l40 hsz
 exact ⟨⟨h40,znU k 40 t h40 h.2 h.1⟩,zk8 k 40 t hlv hs,by omega,f40'.2.1,l40,f40⟩
theorem zjh (D:List Nat->List Nat->Prop):∀(k:Nat) (t:Tr),Tr.Lv k t->zah k t=true->zaY k t=false->zbZ D k t []
 | 0,_,h,_,_=>h.elim
 | k+1,t,hl,hf,h=>by
  have hfo:t.parts.all (zah k)=true:=by
   have:(zch t&&t.parts.all (zah k))=true:=hf
   rw[qR] at this
   exact this.2
  have h8:¬8<=t.kind:=fun q=>by
   have:zaY (k+1) t=true:=by simp[zaY,q]
   rw[this] at h
   cases h
  unfold zbZ
  rw[if_neg h8]
  have hp:∀p∈t.parts,zbZ D k p []:=fun p hp=>zjh D k p (hl p hp) (List.all_eq_true.1 hfo p hp) (by
   have h2:∀x∈t.parts,zaY k x=false:=by simpa [zaY,h8] using h
   exact h2 p hp)
  have key:∀ps:List Tr,(∀p∈ps,zbZ D k p [])->zfM (fun p x=>zbZ D k p x) ps []:=fun ps=>by
   induction ps with
   | nil=>exact fun _=>rfl
   | cons p ps ih=>exact fun h=>⟨[],[],rfl,h p (by simp),ih (fun q hq=>h q (qX _ hq))⟩
  exact key _ hp
section
variable {AA:World->Value->List Nd->(Nat->Prop)->Prop}
theorem zsD (S:zaI AA) {w:World} {a:Value} {ns:List Nd} {F:Nat->Prop} (k:Nat) (t:Tr) (h:AA w a ns F) (ht:Tr.Ins w k t) (hs:zeP k t) (hf:zaH k t=true) (hl:zaY k t=false):Calls Tryz.prog 19 #[a,.agg t.cs.toArray,.nilFunc] w fun e w'=>∃(id:Int) (more:List Nd) (F':Nat->Prop),((e=.returned (.tuple #[.int .i64 0,.int .i64 4]))\/(e=.returned (.tuple #[.int .i64 id,.int .i64 0])/\zac (ns++more) id/\∀l bits:List Nat,(∀b∈l,b<256)->l.length<=8->∀i j,i<=l.length->j<=l.length->zai l bits (ns++more) id i j=zae l k t i j))/\AA w' a (ns++more) F'/\(∀b,F' b->F b\/w.heap.size<=b)/\OffF F w w':=by
 have hA:At (w.alloc (Obj.cells t.cs.toArray 49)) w.heap.size 49 t.cs.toArray:=At.new _ _ _
 have hB:Below w.heap.size w (w.alloc (Obj.cells t.cs.toArray 49)):=zqb
 have HI:=zqh (ht.next hB)
 have HB:=zqh hB
 have HF:=zqh hf
 have HS:=zqh hs
 have HL:=zqh hl
 obtain ⟨gp,rfl⟩:=S.ptr h
 have HA:=zqh h
 clear h ht hB hf hs hl
 go_enter Tryz.func19,Tryz.ntmps19
 go_wp2_with (first | (refine zaa (by rfl) 49 _ rfl w.heap.size rfl 49 t.cs.toArray (0,0) _ hA Tryz.underlying49 rfl (by kernel_rfl) ?_) | fail)
 refine (zl9 k t _ HI.out.1).mono ?_
 rintro e w1 ⟨rfl,hb1⟩
 rw[HF.out]
 have HI1:=zqh (HI.out.next hb1)
 have HB1:=zqh (HB.out.trans (hb1.mono HB.out.size))
 have HA1:=zqh (At.below hA hb1 (At.lt hA))
 have H40:=zqh (znX HI1.out HS.out HF.out)
 clear hb1 hA
 go_wp2_with (first | (refine jU rfl 49 _ rfl w.heap.size rfl 49 t.cs.toArray (0,0) _ HA1.out Tryz.underlying49 rfl (by kernel_rfl) ?_) | fail)
 refine (zt7 t w1 H40.out.1 H40.out.2.1 H40.out.2.2.1).mono ?_
 rintro e w2 ⟨t2,rfl,hin,hfr,hst,hb2⟩
 have HB2:=zqh (HB1.out.trans (hb2.mono HB1.out.size))
 have HA2:=zqh (At.below HA1.out hb2 (At.lt HA1.out))
 have hone2:=Tr.one t2
 have HR:Hid (Tr.Ins w2 40 t2/\Tr.From w1.heap.size 40 t2/\t2.strip 40=t.strip 40):=zqh ⟨hin,hfr,hst⟩
 have HSz1:Hid (w.heap.size<w1.heap.size):=zqh (At.lt HA1.out)
 have HBs:Hid (w1.heap.size<=w2.heap.size):=zqh hb2.size
 clear hin hfr hst hb2
 obtain ⟨w3,hw3⟩:∃w3,w3=w2.setRow w.heap.size t2.cs.toArray:=⟨_,rfl⟩
 have ho3:zfN w.heap.size w2 w3:=by rw[hw3];exact zfN.row _ _ _
 have HR3:=zqh (HR.out.1.only HR.out.2.1 ho3 HSz1.out)
 have HA3:Hid (At w3 w.heap.size 49 t2.cs.toArray):=zqh (by rw[hw3];exact HA2.out.row _)
 have HB3:Hid (Below w.heap.size w w3):=zqh (HB2.out.trans (ho3.below zqn))
 have HF2:Hid (zah 40 t2=true):=zqh (by rw[zeW 40 t2 t HR.out.2.2];exact H40.out.2.2.2.1)
 have HL2:Hid (zaY 40 t2=false):=zqh (by
  rw[zgY 40 t2 t HR.out.2.2,zq8 zaY zk7 H40.out.2.2.2.2.1 HI1.out.1.lv];exact HL.out)
 have HW3:=zqh hw3
 clear ho3 hw3
 go_wp2_with (first
  |(with_reducible show wpList _ _ _ (⟨none,.store _ _ _,_,_,_,_⟩::_) _ _
    refine qN rfl 49 _ _ rfl w.heap.size t2.cs.toArray rfl rfl 49 t.cs.toArray HA2.out (by kernel_rfl) rfl hone2 ?_
    rw[<-HW3.out])
  |(refine jU rfl 49 _ rfl w.heap.size rfl 49 t2.cs.toArray (0,0) _ HA3.out Tryz.underlying49 rfl (by kernel_rfl) ?_)
  | fail)
 refine (zq2 40 t2 w3 HR3.out.1 HF2.out).mono ?_
 rintro e w4 ⟨v,rfl,hv,hb4⟩
 rw[HL2.out] at hv ⊢
 obtain rfl:=hv rfl
 have HB4:=zqh (HB3.out.trans (hb4.mono HB3.out.size))
 have HR4:=zqh (HR3.out.next hb4)
 have HA4:=zqh (At.below HA3.out hb4 (At.lt HA3.out))
 have HS4:Hid (w1.heap.size<=w4.heap.size):=zqh (by
  have h1:=hb4.size
  rw[HW3.out,setRow_size] at h1
  have h2:w1.heap.size<=w2.heap.size:=HBs.out
  omega)
 clear hb4 hv
 go_wp2_with (first
  |(refine jU rfl 49 _ rfl w.heap.size rfl 49 t2.cs.toArray (0,0) _ (by first | exact HA4.out | exact (HA4.out.alloc _)) Tryz.underlying49 rfl (by kernel_rfl) ?_)
  | fail)
 have HSz:Hid (zam 40 t2<=1000):=zqh (by
  have h1:=H40.out.2.2.2.2.2
  unfold zaH at h1
  rw[qR,qR] at h1
  have h2:=jB h1.2.2
  rw[zgz 40 t2 t HR.out.2.2]
  omega)
 have HGd:Hid (zbZ (fun _ _=>True) 40 t2 []):=zqh (zjh _ 40 t2 HR.out.1.1.lv HF2.out HL2.out)
 have HNd:Hid (Calls Tryz.prog 52 #[.pointer (some ⟨w4.heap.size,0,none⟩),.agg t2.cs.toArray] (w4.alloc (.cells #[.pointer (some ⟨gp,0,none⟩),.slice none 0 0] 90)) (zej AA (w4.alloc (.cells #[.pointer (some ⟨gp,0,none⟩),.slice none 0 0] 90)) (.pointer (some ⟨gp,0,none⟩)) ns F w4.heap.size w.heap.size [] (fun ms r=>zb4 (fun _ _=>True) ms r (fun l=>zae l 40 t2)))):=zqh (by
  have hal:Below w4.heap.size w4 (w4.alloc (.cells #[.pointer (some ⟨gp,0,none⟩),.slice none 0 0] 90)):=zqb
  have hFl:=S.low HA.out
  have hw14:=HB4.out.size
  have hlt:=HA4.out.lt
  refine zt1 S (zsh S) 40 t2 w4.heap.size w.heap.size [] [] (S.next HA.out (HB4.out.trans (hal.mono hw14))) ⟨_,At.new _ _ _,zq1.nil _ (by rw[qV];omega)⟩ (fun z=>by have:=hFl _ z;omega) (fun w' ho=>?_) HF2.out HGd.out HSz.out
  refine Tr.In.kept (base:=w1.heap.size) (qH hal.size ho.size) (fun b hb hlt=>(ho.block b (qM hlt hal.size) (fun z=>?_)).trans (hal.block b hlt)) 40 t2 HR.out.2.1 HR4.out.1
  have:=HSz1.out
  rcases z with z | z
  ·have:=hFl b z;omega
  ·omega)
 refine HNd.out.mono ?_
 rintro e w6 ⟨r,more,F',rfl,g1,g2,g3,gk,g4⟩
 have HO:Hid (AA w6 (.pointer (some ⟨gp,0,none⟩)) (ns++more) F'/\(∀b,F' b->F b\/w.heap.size<=b)/\OffF F w w6):=zqh (by
  have hal:Below w4.heap.size w4 (w4.alloc (.cells #[.pointer (some ⟨gp,0,none⟩),.slice none 0 0] 90)):=zqb
  have hB5:=HB4.out.trans (hal.mono HB4.out.size)
  refine ⟨g1,fun b z=>?_,(OffF.of hB5).off g3 (fun b z=>z.elim Or.inl (fun z=>Or.inr (by have:=HB4.out.size;omega)))⟩
  rcases g2 b z with z | z
  ·exact Or.inl z
  ·exact Or.inr (qH hB5.size z))
 rcases g4 with rfl | ⟨hin,htb⟩
 ·clear g1 g2 g3 gk
  go_wp2_with fail
  go_ret2
  exact ⟨0,more,F',Or.inl rfl,HO.out⟩
 have HT:Hid (∀l bits:List Nat,(∀b∈l,b<256)->l.length<=8->∀i j,i<=l.length->j<=l.length->zai l bits (ns++more) r i j=zae l k t i j):=zqh (fun l bits hb hl i j hi hj=>by
  have h1:=htb l bits hb hl trivial i j (by omega) (by omega)
  have e:zae l 40 t2=zae l k t:=by
   rw[zgB l 40 t2 t HR.out.2.2]
   exact zq8 (zae l) (zjg l) H40.out.2.2.2.2.1 HI1.out.1.lv
  rw[<-e]
  exact h1)
 have HIn:=zqh hin
 have hr0:¬r<0:=by unfold zac at hin;omega
 have hr0d:=qE hr0
 clear g1 g2 g3 gk hin htb
 go_wp2_with fail
 go_ret2
 exact ⟨r,more,F',Or.inr ⟨rfl,HIn.out,HT.out⟩,HO.out⟩
end
end
end Go.Proofs.YtdmodhnhldbpnaaGreat
