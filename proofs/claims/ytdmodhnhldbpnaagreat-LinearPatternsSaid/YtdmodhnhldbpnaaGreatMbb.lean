/- Joined: NodeSpans, LawPatterns, FoA, FoB. -/
import Derived.Test.YtdmodhnhldbpnaaGreatMac
import Derived.Test.YtdmodhnhldbpnaaGreatMzy
import Derived.StillTailTactics
import Derived.Deep.RegionHeld3
import Derived.Test.YtdmodhnhldbpnaaGreatMag
import Derived.Test.YtdmodhnhldbpnaaGreatMah
import Derived.Test.YtdmodhnhldbpnaaGreatMba
import Derived.Test.YtdmodhnhldbpnaaGreatRefSpans
import Derived.Test.YtdmodhnhldbpnaaGreatMay
import Derived.Test.YtdmodhnhldbpnaaGreatMae
import Derived.Deep.QuietTactic
import Derived.BigQuiet
import Derived.Test.YtdmodhnhldbpnaaGreatMaf
import Derived.Test.YtdmodhnhldbpnaaGreatAid
/- bolterref09.Spans: what each node matches, as tables. -/
set_option linter.unusedSimpArgs false
set_option linter.unusedVariables false
set_option maxHeartbeats 32000000
set_option maxRecDepth 100000
namespace Go.Proofs.YtdmodhnhldbpnaaGreat
section
open Go.RowKit
end

section
open Go.RowKit
theorem zma {k:Nat} {t:Tr} (h:zaH k t=true):zah k t=true:=by
 unfold zaH at h
 rw[qR,qR] at h
 exact h.2.1
section
variable {AA:World->Value->List Nd->(Nat->Prop)->Prop} {Good:List Nd->Fm->Prop}
theorem zkd (S:zdq AA) (G:zaI AA) (L:zm5 AA Good) (k:Nat) (t:Tr) (A:Option Addr) (n c:Nat) (l:List Nat) (w:World) (h:Tr.Ins w k t) (hb:zdf w A n l) :
  Calls Tryz.prog 4 #[.agg t.cs.toArray,.slice A n c] w fun e w'=>e=.returned (.bool true)/\Below w.heap.size w w':=by
 have HIs:=zqh h
 have HI:=zqh h.1
 have HBy:=zqh hb
 have HLn:=zqh hb.1
 have HByt:Hid (Byt l):=zqh (fun x hx=>by obtain ⟨i,hi,rfl⟩:=List.mem_iff_getElem.1 hx;exact hb.2.2.1 i hi)
 have hn63:=hb.2.1
 have hA:At (w.alloc (Obj.cells t.cs.toArray 49)) w.heap.size 49 t.cs.toArray:=At.new _ _ _
 have hB:Below w.heap.size w (w.alloc (Obj.cells t.cs.toArray 49)):=zqb
 clear h hb
 by_cases hc:zaX k 60 t<=2000
 ·have HC:Hid (decide (zaX k 60 t<=2000)=true):=zqh (qD hc)
  have HSl:=zqh (zkz k 60 t HI.out (by omega) hc)
  clear hc
  by_cases hl:8<n
  ·have hl1:(8:Int)<(n:Int):=by omega
   have hl2:decide (8<n)=true:=qD hl
   have hl3:decide ((8:Int)<(n:Int))=true:=qD hl1
   go_enter Tryz.func4,Tryz.ntmps4
   go_wp2_with fail
   refine (L.awake _).mono ?_
   rintro e w1 ⟨rfl,hb⟩
   have hA:=hA.step hb rfl
   have hB:=zaf hB hb rfl rfl rfl rfl
   clear hb
   go_wp2_with (first
    |((with_reducible show wpList _ _ _ (⟨_,.load 49 _,_,_,_,_⟩::_) _ _);refine zaa (by rfl) 49 _ rfl w.heap.size rfl 49 t.cs.toArray (0,0) _ hA Tryz.underlying49 rfl (by kernel_rfl) ?_)
    | fail)
   refine (ziS k 60 t _ (by omega) (by omega) (HI.out.next hB)).mono ?_
   rintro e w2 ⟨rfl,hb⟩
   have hA:=hA.step hb rfl
   have hB:=zaf hB hb rfl rfl rfl rfl
   clear hb
   rw[HC.out]
   go_wp2_with fail
   refine (L.awake _).mono ?_
   rintro e w8 ⟨rfl,hb⟩
   have hA:=hA.step hb rfl
   have hB:=zaf hB hb rfl rfl rfl rfl
   clear hb
   have HB:=zqh hB
   clear hA hB
   go_wp2_with fail
   go_ret
   exact ⟨rfl,HB.out⟩
  ·have hl1:¬(8:Int)<(n:Int):=by omega
   have hl2:decide (8<n)=false:=qE hl
   have hl3:decide ((8:Int)<(n:Int))=false:=qE hl1
   cases hfo:zaH k t
   ·have HFo:=zqh hfo
    clear hfo
    go_enter Tryz.func4,Tryz.ntmps4
    go_wp2_with fail
    refine (L.awake _).mono ?_
    rintro e w1 ⟨rfl,hb⟩
    have hA:=hA.step hb rfl
    have hB:=zaf hB hb rfl rfl rfl rfl
    clear hb
    go_wp2_with (first
     |((with_reducible show wpList _ _ _ (⟨_,.load 49 _,_,_,_,_⟩::_) _ _);refine zaa (by rfl) 49 _ rfl w.heap.size rfl 49 t.cs.toArray (0,0) _ hA Tryz.underlying49 rfl (by kernel_rfl) ?_)
     | fail)
    refine (ziS k 60 t _ (by omega) (by omega) (HI.out.next hB)).mono ?_
    rintro e w2 ⟨rfl,hb⟩
    have hA:=hA.step hb rfl
    have hB:=zaf hB hb rfl rfl rfl rfl
    clear hb
    rw[HC.out]
    go_wp2_with (first
     |((with_reducible show wpList _ _ _ (⟨_,.load 49 _,_,_,_,_⟩::_) _ _);refine zaa (by rfl) 49 _ rfl w.heap.size rfl 49 t.cs.toArray (0,0) _ hA Tryz.underlying49 rfl (by kernel_rfl) ?_)
     | fail)
    refine (zgV k t _ (HI.out.next hB)).mono ?_
    rintro e w3 ⟨rfl,hb⟩
    have hA:=hA.step hb rfl
    have hB:=zaf hB hb rfl rfl rfl rfl
    clear hb
    rw[HFo.out]
    go_wp2_with fail
    refine (L.awake _).mono ?_
    rintro e w8 ⟨rfl,hb⟩
    have hA:=hA.step hb rfl
    have hB:=zaf hB hb rfl rfl rfl rfl
    clear hb
    have HB:=zqh hB
    clear hA hB
    go_wp2_with fail
    go_ret
    exact ⟨rfl,HB.out⟩
   ·have HFo:=zqh hfo
    clear hfo
    have HSp0:Hid (∀w',Tr.In w' k t->zdf w' A n l->Calls Tryz.prog 20 #[.agg t.cs.toArray,.slice A n c] w' (zcq w' (n+1) (zae l k t))):=zqh (fun w' hi hby=>by
     obtain rfl:=HLn.out
     exact zk9 l k t A c w' hi HSl.out (zma HFo.out) hby (by omega))
    cases hlk:zaY k t
    ·have HLk:=zqh hlk
     clear hlk
     go_enter Tryz.func4,Tryz.ntmps4
     go_wp2_with fail
     refine (L.awake _).mono ?_
     rintro e w1 ⟨rfl,hb⟩
     have hA:=hA.step hb rfl
     have hB:=zaf hB hb rfl rfl rfl rfl
     clear hb
     go_wp2_with (first
      |((with_reducible show wpList _ _ _ (⟨_,.load 49 _,_,_,_,_⟩::_) _ _);refine zaa (by rfl) 49 _ rfl w.heap.size rfl 49 t.cs.toArray (0,0) _ hA Tryz.underlying49 rfl (by kernel_rfl) ?_)
      | fail)
     refine (ziS k 60 t _ (by omega) (by omega) (HI.out.next hB)).mono ?_
     rintro e w2 ⟨rfl,hb⟩
     have hA:=hA.step hb rfl
     have hB:=zaf hB hb rfl rfl rfl rfl
     clear hb
     rw[HC.out]
     go_wp2_with (first
      |((with_reducible show wpList _ _ _ (⟨_,.load 49 _,_,_,_,_⟩::_) _ _);refine zaa (by rfl) 49 _ rfl w.heap.size rfl 49 t.cs.toArray (0,0) _ hA Tryz.underlying49 rfl (by kernel_rfl) ?_)
      | fail)
     refine (zgV k t _ (HI.out.next hB)).mono ?_
     rintro e w3 ⟨rfl,hb⟩
     have hA:=hA.step hb rfl
     have hB:=zaf hB hb rfl rfl rfl rfl
     clear hb
     rw[HFo.out]
     go_wp2_with (first
      |((with_reducible show wpList _ _ _ (⟨_,.load 49 _,_,_,_,_⟩::_) _ _);refine zaa (by rfl) 49 _ rfl w.heap.size rfl 49 t.cs.toArray (0,0) _ hA Tryz.underlying49 rfl (by kernel_rfl) ?_)
      | fail)
     refine (zgG k t _ (HI.out.next hB)).mono ?_
     rintro e w3 ⟨rfl,hb⟩
     have hA:=hA.step hb rfl
     have hB:=zaf hB hb rfl rfl rfl rfl
     clear hb
     rw[HLk.out]
     go_wp2_with fail
     refine (S.new _).mono ?_
     rintro e w4 ⟨a,F,rfl,hA4,hF4,hb4⟩
     have HF4:Hid (∀b,F b->w.heap.size<b):=zqh (fun b q=>by have:=hF4 b q;have:=hA.lt;omega)
     have hA:=hA.step hb4 rfl
     have hB:=zaf hB hb4 rfl rfl rfl rfl
     have HBd:=zqh (zsD G k t hA4 (HIs.out.next hB) HSl.out HFo.out HLk.out)
     clear hb4 hA4 hF4
     go_wp2_with (first
      |((with_reducible show wpList _ _ _ (⟨_,.load 49 _,_,_,_,_⟩::_) _ _);refine zaa (by rfl) 49 _ rfl w.heap.size rfl 49 t.cs.toArray (0,0) _ hA Tryz.underlying49 rfl (by kernel_rfl) ?_)
      | fail)
     refine HBd.out.mono ?_
     rintro e w5 ⟨id,ms0,F5,hres,hA5,hF5,ho5⟩
     rw[yW] at hres hA5
     have HF5:Hid (∀b,F5 b->w.heap.size<b):=zqh (fun b q=>by
      rcases hF5 b q with q | q
      ·exact HF4.out b q
      ·have:=hA.lt;omega)
     have hA:At w5 w.heap.size 49 t.cs.toArray:=(ho5.block _ hA.lt (fun q=>by have:=HF4.out _ q;omega)).trans hA
     have hB:=hB.trans (ho5.below (fun b q=>by have:=HF4.out b q;omega) hB.size)
     have HA5:=zqh hA5
     clear hA5 hF5 ho5 HBd
     rcases hres with rfl | ⟨rfl,hin,htb⟩
     ·have HB:=zqh hB
      clear hA hB
      go_wp2_with fail
      go_ret
      exact ⟨rfl,HB.out⟩
     have HIn:=zqh hin
     have HTb:=zqh htb
     clear hin htb
     have HAt:=zqh hA
     have HBt:=zqh hB
     clear hA hB
     go_wp2_with fail
     refine (L.of id HA5.out HIn.out).mono ?_
     rintro e w6 ⟨A3,n3,c3,er,f,more2,F6,rfl,hA6,hF6,ho6,hr6⟩
     have hA:At w6 w.heap.size 49 t.cs.toArray:=(ho6.block _ HAt.out.lt (fun q=>by have:=HF5.out _ q;omega)).trans HAt.out
     have hB:=HBt.out.trans (ho6.below (fun b q=>by have:=HF5.out b q;omega) HBt.out.size)
     have HF6:Hid (∀b,F6 b->w.heap.size<b):=zqh (fun b q=>by
      rcases hF6 b q with q | q
      ·exact HF5.out b q
      ·have:=HAt.out.lt;omega)
     have HA6:=zqh hA6
     have HR6:=zqh hr6
     clear hA6 hF6 ho6 hr6 HA5 HAt HBt HF5 HF4
     have HSp:=zqh (HSp0.out w6 (HI.out.next hB) (HBy.out.below hB))
     have HB6:=zqh hB
     clear hB
     go_wp2_with (first
      |((with_reducible show wpList _ _ _ (⟨_,.load 49 _,_,_,_,_⟩::_) _ _);refine zaa (by rfl) 49 _ rfl w.heap.size rfl 49 t.cs.toArray (0,0) _ hA Tryz.underlying49 rfl (by kernel_rfl) ?_)
      | fail)
     refine HSp.out.mono ?_
     rintro e w7 ⟨ga,ra,rfl,ht7,hb7⟩
     obtain ⟨T,hT⟩:∃T,zae l k t 0=T:=⟨_,rfl⟩
     have hrow:=ht7.rowT (by omega) (lo:=w6.heap.size) zqn
     rw[hT] at hrow
     have HRun:Hid (zh6 AA w a T w6.heap.size w7.heap.size ga (n+1) w7 (ms0++more2) F6):=zqh ⟨S.next HA6.out hb7,fun b q=>by have:=HF6.out b q;omega,fun b q=>Or.inl (S.low HA6.out b q),HB6.out.trans (hb7.mono HB6.out.size),hrow⟩
     have HRes:Hid (er=4\/er=0/\zaJ F6 w7 (.slice A3 n3 c3) f/\Good (ms0++more2) f/\∀kk,0<=kk->kk<=l.length->fP (fun x=>zai l (List.replicate (n+1) 0) (ms0++more2) x 0 kk) f=T kk):=zqh (by
      rcases HR6.out with h | ⟨h1,h2,h3,h4⟩
      ·exact Or.inl h
      ·refine Or.inr ⟨h1,h2.next hb7,h3,fun kk _ hk=>?_⟩
       refine (h4 l (List.replicate (n+1) 0) 0 kk ⟨HByt.out,qK _,hk⟩).trans ?_
       show zai l (List.replicate (n+1) 0) ms0 id 0 kk=T kk
       rw[<-hT]
       exact HTb.out l _ HByt.out (by have:=HLn.out;omega) 0 kk (qK _) hk)
     clear ht7 hb7 hT hrow HSp HR6 HA6 HB6 HF6 hA HTb HIn HSp0
     obtain ⟨nm,hnm⟩:∃nm,nm=ms0++more2:=⟨_,rfl⟩
     rw[<-hnm] at HRun HRes
     clear hnm
     go_wp2_with fail
     go_loopw [7,8,56] (fun ev u v wr=>∃(j:Nat) (B':Option Addr) (m' c':Nat) (er':Int) (f':Fm) (ms:List Nd) (F':Nat->Prop),j<=n+1/\v=.int .i64 j/\u=.slice B' m' c'/\ev=.int .i64 er'/\Hid (zh6 AA w a T w6.heap.size w7.heap.size ga (n+1) wr ms F')/\Hid (er'=4\/er'=0/\zaJ F' wr (.slice B' m' c') f'/\Good ms f'/\∀kk,j<=kk->kk<=l.length->fP (fun x=>zai l (List.replicate (n+1) 0) ms x j kk) f'=T kk)) (fun _ _ v _=>n+1-(intOf v).toNat)
     case atStart=>exact ⟨0,A3,n3,c3,er,f,nm,F6,qK _,rfl,rfl,rfl,HRun,HRes⟩
     case round =>
      clear HRun HRes
      obtain ⟨j,B',m',c',er',f',ms,F',hj,rfl,rfl,rfl,HRn,HRs⟩:=hrel
      by_cases hjN:j<n+1
      ·have hj0:(0:Int)<=(j:Int):=by omega
       have hj1:(j:Int)<(n:Int)+1:=by omega
       have hN0i:(0:Int)<(n:Int)+1:=by omega
       rcases HRs.out with he4 | ⟨he0,hk,hg,hT⟩
       ·subst he4
        go_wp2_with fail
        go_ret
        exact ⟨rfl,HRn.out.below⟩
       subst he0
       have HK:=zqh hk
       have HGd:=zqh hg
       have HTs:=zqh hT
       clear hk hg hT HRs
       obtain ⟨r,r1,r2,q1,q2'⟩:=HRn.out.row.ex
       have HGa:Hid (ga<wr.heap.size/\r<wr.heap.size):=zqh (by have:=HRn.out.row.big;omega)
       have q2:=q2' j hjN
       obtain ⟨x,hx⟩:∃x,T j=x:=⟨_,rfl⟩
       rw[hx] at q2
       have HAns:Hid (fP (fun x=>zan ms 0 x) f'=x):=zqh (by
        rw[<-hx,<-HTs.out j zqn (by have:=HLn.out;omega)]
        exact zd6 (fun p hp y hy=>(ziP (S.fine HRn.out.aa) (L.inF HGd.out p hp y hy) (by have:=HLn.out;omega) (ziQ _ _)).symm))
       have HFm:Hid (∀w',Below wr.heap.size wr w'->Calls Tryz.prog 21 #[.slice B' m' c'] w' fun e w''=>e=.returned (.bool true)/\Below w'.heap.size w' w''):=zqh (fun w' hb=>by
        refine (zlG f' B' m' c' w' (HK.out.here.next hb)).mono ?_
        rintro e w'' h
        rw[L.formed HGd.out] at h
        exact h)
       have HAcc:Hid (∀w',Below wr.heap.size wr w'->Calls Tryz.prog 13 #[a,.slice B' m' c',.int .u8 0] w' fun e w''=>e=.returned (.bool x)/\Below w'.heap.size w' w''):=zqh (fun w' hb=>by
        refine (L.accepts 0 (S.next HRn.out.aa hb) (HK.out.here.next hb) HGd.out (by omega)).mono ?_
        rintro e w'' ⟨rfl,hb'⟩
        exact ⟨by rw[HAns.out],hb'⟩)
       have hxx:(x != x)=false:=by cases x<;>rfl
       clear r1 r2 hx q2'
       go_wp2_with fail
       have hBo:Below wr.heap.size wr wr:=qT _ _
       refine wp_region_noPanic ?_
       refine wp_region_held_drew (S:=(fun w'=>w'.cell? ⟨ga,0,none⟩=some (.slice (some ⟨r,0,none⟩) (n+1) (n+1))/\w'.cell? ⟨r,j,none⟩=some (.bool x))) (by kernel_rfl) (by first | exact ⟨((zbW hBo).1 ga _ HGa.out.1).trans q1,((zbW hBo).1 r _ HGa.out.2).trans q2⟩ | exact ⟨((zbW hBo.drew).1 ga _ HGa.out.1).trans q1,((zbW hBo.drew).1 r _ HGa.out.2).trans q2⟩ | exact ⟨q1,q2⟩) (fun hHeld=>?_)
       have hBo:=hBo.drew
       refine wpAnyH_take (i:=0) (oi:=⟨some 63,_,_,_,_,_⟩) (v:=?_) rfl (by kernel_rfl) (by kernel_rfl) (by kernel_rfl) (fun _ _ _ h=>h) (Or.inl ⟨by rfl,?_⟩) (by exact hHeld) ?_
       rotate_left
       ·(intro w hSw;(try dsimp only at hSw);go_simp;try (with_reducible rfl))
       simp only[Act.put,qA,qB,qC]
       refine wpAnyH_ready (rs:=[1]) (by kernel_rfl) (by simp) ?_
       refine AllReadyH.cons (o:=⟨some 64,_,_,_,_,_⟩) rfl (fun K hK=>?_) AllReadyH.nil
       go_simp
       ((with_reducible refine (HFm.out _ hBo).mono ?_))
       rintro e wa ⟨rfl,hba⟩
       have hBo:=zaf hBo hba rfl rfl rfl rfl
       clear hba
       dsimp only
       refine hK.out _ _ ?_ (fun hHeld=>?_)
       ·first | exact ⟨((zbW hBo).1 ga _ HGa.out.1).trans q1,((zbW hBo).1 r _ HGa.out.2).trans q2⟩ | exact ⟨((zbW hBo.drew).1 ga _ HGa.out.1).trans q1,((zbW hBo.drew).1 r _ HGa.out.2).trans q2⟩ | exact ⟨q1,q2⟩
       clear hK K
       try simp only[Act.put,qA,qB,qC]
       refine wpAnyH_take (i:=2) (oi:=⟨some 65,_,_,_,_,_⟩) (v:=?_) rfl (by kernel_rfl) (by kernel_rfl) (by kernel_rfl) (fun _ _ _ h=>h) (Or.inl ⟨by rfl,?_⟩) (by exact hHeld) ?_
       rotate_left
       ·(intro w hSw;(try dsimp only at hSw);go_simp;try (with_reducible rfl))
       simp only[Act.put,qA,qB,qC]
       refine wpAnyH_take (i:=3) (oi:=⟨some 66,_,_,_,_,_⟩) (v:=?_) rfl (by kernel_rfl) (by kernel_rfl) (by kernel_rfl) (fun _ _ _ h=>h) (Or.inl ⟨by rfl,?_⟩) (by exact hHeld) ?_
       rotate_left
       ·(intro w hSw;(try dsimp only at hSw);go_simp;try (with_reducible rfl))
       simp only[Act.put,qA,qB,qC]
       refine wpAnyH_take (i:=4) (oi:=⟨some 67,_,_,_,_,_⟩) (v:=?_) rfl (by kernel_rfl) (by kernel_rfl) (by kernel_rfl) (fun _ _ _ h=>h) (Or.inl ⟨by rfl,?_⟩) (by exact hHeld) ?_
       rotate_left
       ·(intro w hSw;(try dsimp only at hSw);go_simp;try (with_reducible rfl))
       simp only[Act.put,qA,qB,qC]
       refine wpAnyH_take (i:=5) (oi:=⟨some 68,_,_,_,_,_⟩) (v:=?_) rfl (by kernel_rfl) (by kernel_rfl) (by kernel_rfl) (fun _ _ _ h=>h) (Or.inl ⟨by rfl,?_⟩) (by exact hHeld) ?_
       rotate_left
       ·(intro w hSw;(try dsimp only at hSw);go_simp;try (with_reducible rfl))
       simp only[Act.put,qA,qB,qC]
       refine wpAnyH_take (i:=7) (oi:=⟨some 70,_,_,_,_,_⟩) (v:=?_) rfl (by kernel_rfl) (by kernel_rfl) (by kernel_rfl) (fun _ _ _ h=>h) (Or.inl ⟨by rfl,?_⟩) (by exact hHeld) ?_
       rotate_left
       ·(intro w hSw;(try dsimp only at hSw);go_simp;try (with_reducible rfl))
       simp only[Act.put,qA,qB,qC]
       refine wpAnyH_take (i:=8) (oi:=⟨some 71,_,_,_,_,_⟩) (v:=?_) rfl (by kernel_rfl) (by kernel_rfl) (by kernel_rfl) (fun _ _ _ h=>h) (Or.inl ⟨by rfl,?_⟩) (by exact hHeld) ?_
       rotate_left
       ·(intro w hSw;(try dsimp only at hSw);go_simp;try (with_reducible rfl))
       simp only[Act.put,qA,qB,qC]
       refine wpAnyH_take (i:=9) (oi:=⟨some 72,_,_,_,_,_⟩) (v:=?_) rfl (by kernel_rfl) (by kernel_rfl) (by kernel_rfl) (fun _ _ _ h=>h) (Or.inl ⟨by rfl,?_⟩) (by exact hHeld) ?_
       rotate_left
       ·(intro w hSw;(try dsimp only at hSw);obtain ⟨s1,s2⟩:=hSw;go_simp;try (with_reducible rfl))
       simp only[Act.put,qA,qB,qC]
       refine wpAnyH_take (i:=10) (oi:=⟨some 73,_,_,_,_,_⟩) (v:=?_) rfl (by kernel_rfl) (by kernel_rfl) (by kernel_rfl) (fun _ _ _ h=>h) (Or.inl ⟨by rfl,?_⟩) (by exact hHeld) ?_
       rotate_left
       ·(intro w hSw;(try dsimp only at hSw);go_simp;try (with_reducible rfl))
       simp only[Act.put,qA,qB,qC]
       refine wpAnyH_take (i:=11) (oi:=⟨some 74,_,_,_,_,_⟩) (v:=?_) rfl (by kernel_rfl) (by kernel_rfl) (by kernel_rfl) (fun _ _ _ h=>h) (Or.inl ⟨by rfl,?_⟩) (by exact hHeld) ?_
       rotate_left
       ·(intro w hSw;(try dsimp only at hSw);go_simp;try (with_reducible rfl))
       simp only[Act.put,qA,qB,qC]
       refine wpAnyH_take (i:=12) (oi:=⟨some 75,_,_,_,_,_⟩) (v:=?_) rfl (by kernel_rfl) (by kernel_rfl) (by kernel_rfl) (fun _ _ _ h=>h) (Or.inl ⟨by rfl,?_⟩) (by exact hHeld) ?_
       rotate_left
       ·(intro w hSw;(try dsimp only at hSw);obtain ⟨s1,s2⟩:=hSw;go_simp;try (with_reducible rfl))
       simp only[Act.put,qA,qB,qC]
       refine wpAnyH_ready (rs:=[6]) (by kernel_rfl) (by simp) ?_
       refine AllReadyH.cons (o:=⟨some 69,_,_,_,_,_⟩) rfl (fun K hK=>?_) AllReadyH.nil
       go_simp
       ((with_reducible refine (HAcc.out _ hBo).mono ?_))
       rintro e wb ⟨rfl,hbb⟩
       have hBo:=zaf hBo hbb rfl rfl rfl rfl
       clear hbb
       dsimp only
       refine hK.out _ _ ?_ (fun hHeld=>?_)
       ·first | exact ⟨((zbW hBo).1 ga _ HGa.out.1).trans q1,((zbW hBo).1 r _ HGa.out.2).trans q2⟩ | exact ⟨((zbW hBo.drew).1 ga _ HGa.out.1).trans q1,((zbW hBo.drew).1 r _ HGa.out.2).trans q2⟩ | exact ⟨q1,q2⟩
       clear hK K
       try simp only[Act.put,qA,qB,qC]
       refine wpAnyH_take (i:=13) (oi:=⟨some 76,_,_,_,_,_⟩) (v:=?_) rfl (by kernel_rfl) (by kernel_rfl) (by kernel_rfl) (fun _ _ _ h=>h) (Or.inl ⟨by rfl,?_⟩) (by exact hHeld) ?_
       rotate_left
       ·(intro w hSw;(try dsimp only at hSw);go_simp;try (with_reducible rfl))
       simp only[Act.put,qA,qB,qC]
       refine wpAnyH_take (i:=14) (oi:=⟨some 77,_,_,_,_,_⟩) (v:=?_) rfl (by kernel_rfl) (by kernel_rfl) (by kernel_rfl) (fun _ _ _ h=>h) (Or.inl ⟨by rfl,?_⟩) (by exact hHeld) ?_
       rotate_left
       ·(intro w hSw;(try dsimp only at hSw);go_simp;try (with_reducible rfl))
       simp only[Act.put,qA,qB,qC]
       refine wpAnyH_done (by kernel_rfl) ?_ _
       refine NoPanic.normal ?_
       have HBo:=zqh hBo
       clear hBo q1 q2
       by_cases hjn:j<n
       ·have hjn1:(j:Int)<(n:Int):=by omega
        obtain ⟨bA,oA,rfl,hlA,p3,p4⟩:=zpf (HBy.out.below (HRn.out.below.trans (HBo.out.mono HRn.out.below.size))) hjn
        obtain ⟨bj,hbj⟩:∃bj,(l[j]?).getD 0=bj:=⟨_,rfl⟩
        rw[hbj] at p3 p4
        have HBj:=zqh hbj
        have HBjl:=zqh p4
        clear hbj p4 hlA
        have HNext:Hid (Calls Tryz.prog 14 #[a,.slice B' m' c',.int .u8 bj,.int .u8 0] (wb) fun e w''=>∃(A:Option Addr) (n1 c:Nat) (er:Int) (f:Fm) (ms':List Nd) (F:Nat->Prop),e=.returned (.tuple #[.slice A n1 c,.int .i64 er])/\zh6 AA w a T w6.heap.size w7.heap.size ga (n+1) w'' ms' F/\(er=4\/er=0/\zaJ F w'' (.slice A n1 c) f/\Good ms' f/\∀kk,j+1<=kk->kk<=l.length->fP (fun x=>zai l (List.replicate (n+1) 0) ms' x (j+1) kk) f=T kk)):=zqh (by
         have hR:=HRn.out.below' S HBo.out
         refine (L.next bj 0 hR.aa (HK.out.next HBo.out) HGd.out HBjl.out (by omega)).mono ?_
         rintro e w'' ⟨A,n1,c,er,h,more,F,rfl,h1,h2,h3,h4⟩
         refine ⟨A,n1,c,er,h,_,F,rfl,hR.off h1 h2 h3,?_⟩
         rcases h4 with h4 | ⟨h4,h5,h6,h7⟩
         ·exact Or.inl h4
         ·refine Or.inr ⟨h4,h5,h6,fun kk k1 k2=>?_⟩
          exact (h7 l (List.replicate (n+1) 0) j kk ⟨HByt.out,by omega,k2,HBj.out,ziQ _ _⟩).trans (HTs.out kk (by omega) k2))
        go_wp2_with fail
        refine HNext.out.mono ?_
        rintro e w9 ⟨A9,n9,c9,er9,f9,ms9,F9,rfl,hr9,hs9⟩
        have HR9:=zqh hr9
        have HS9:=zqh hs9
        clear hr9 hs9
        go_wp2_with fail
        exact ⟨⟨j+1,A9,n9,c9,er9,f9,ms9,F9,by omega,by go_num,rfl,rfl,HR9,HS9⟩,by simp[intOf];omega⟩
       ·have hjn1:¬(j:Int)<(n:Int):=by omega
        go_wp2_with fail
        exact ⟨⟨j+1,B',m',c',0,f',ms,F',by omega,by go_num,rfl,rfl,zqh (HRn.out.below' S HBo.out),zqh (Or.inr ⟨rfl,HK.out.next HBo.out,HGd.out,fun kk k1 k2=>absurd k2 (by have:=HLn.out;omega)⟩)⟩,by simp[intOf];omega⟩
      ·obtain rfl:j=n+1:=by omega
       go_wp2_with fail
       go_ret
       exact ⟨rfl,HRn.out.below⟩
    ·have HLk:=zqh hlk
     clear hlk
     go_enter Tryz.func4,Tryz.ntmps4
     go_wp2_with fail
     refine (L.awake _).mono ?_
     rintro e w1 ⟨rfl,hb⟩
     have hA:=hA.step hb rfl
     have hB:=zaf hB hb rfl rfl rfl rfl
     clear hb
     go_wp2_with (first
      |((with_reducible show wpList _ _ _ (⟨_,.load 49 _,_,_,_,_⟩::_) _ _);refine zaa (by rfl) 49 _ rfl w.heap.size rfl 49 t.cs.toArray (0,0) _ hA Tryz.underlying49 rfl (by kernel_rfl) ?_)
      | fail)
     refine (ziS k 60 t _ (by omega) (by omega) (HI.out.next hB)).mono ?_
     rintro e w2 ⟨rfl,hb⟩
     have hA:=hA.step hb rfl
     have hB:=zaf hB hb rfl rfl rfl rfl
     clear hb
     rw[HC.out]
     go_wp2_with (first
      |((with_reducible show wpList _ _ _ (⟨_,.load 49 _,_,_,_,_⟩::_) _ _);refine zaa (by rfl) 49 _ rfl w.heap.size rfl 49 t.cs.toArray (0,0) _ hA Tryz.underlying49 rfl (by kernel_rfl) ?_)
      | fail)
     refine (zgV k t _ (HI.out.next hB)).mono ?_
     rintro e w3 ⟨rfl,hb⟩
     have hA:=hA.step hb rfl
     have hB:=zaf hB hb rfl rfl rfl rfl
     clear hb
     rw[HFo.out]
     go_wp2_with (first
      |((with_reducible show wpList _ _ _ (⟨_,.load 49 _,_,_,_,_⟩::_) _ _);refine zaa (by rfl) 49 _ rfl w.heap.size rfl 49 t.cs.toArray (0,0) _ hA Tryz.underlying49 rfl (by kernel_rfl) ?_)
      | fail)
     refine (zgG k t _ (HI.out.next hB)).mono ?_
     rintro e w3 ⟨rfl,hb⟩
     have hA:=hA.step hb rfl
     have hB:=zaf hB hb rfl rfl rfl rfl
     clear hb
     rw[HLk.out]
     go_wp2_with fail
     refine (L.awake _).mono ?_
     rintro e w8 ⟨rfl,hb⟩
     have hA:=hA.step hb rfl
     have hB:=zaf hB hb rfl rfl rfl rfl
     clear hb
     have HB:=zqh hB
     clear hA hB
     go_wp2_with fail
     go_ret
     exact ⟨rfl,HB.out⟩
 ·have HC:Hid (decide (zaX k 60 t<=2000)=false):=zqh (qE hc)
  clear hc
  go_enter Tryz.func4,Tryz.ntmps4
  go_wp2_with fail
  refine (L.awake _).mono ?_
  rintro e w1 ⟨rfl,hb⟩
  have hA:=hA.step hb rfl
  have hB:=zaf hB hb rfl rfl rfl rfl
  clear hb
  go_wp2_with (first
   |((with_reducible show wpList _ _ _ (⟨_,.load 49 _,_,_,_,_⟩::_) _ _);refine zaa (by rfl) 49 _ rfl w.heap.size rfl 49 t.cs.toArray (0,0) _ hA Tryz.underlying49 rfl (by kernel_rfl) ?_)
   | fail)
  refine (ziS k 60 t _ (by omega) (by omega) (HI.out.next hB)).mono ?_
  rintro e w2 ⟨rfl,hb⟩
  have hA:=hA.step hb rfl
  have hB:=zaf hB hb rfl rfl rfl rfl
  clear hb
  rw[HC.out]
  go_wp2_with fail
  refine (L.awake _).mono ?_
  rintro e w8 ⟨rfl,hb⟩
  have hA:=hA.step hb rfl
  have hB:=zaf hB hb rfl rfl rfl rfl
  clear hb
  have HB:=zqh hB
  clear hA hB
  go_wp2_with fail
  go_ret
  exact ⟨rfl,HB.out⟩
end
end

section
open Go.RowKit
def zke (x y:Int):Int:=if x<y then -1 else if y<x then 1 else 0
def zmb:List Int->List Int->Int
 | [],[]=>0
 | [],_::_=>-1
 | _::_,[]=>1
 | x::a,y::b=>if zke x y=0 then zmb a b else zke x y
def zqc (a b:List Int):Int:=if a.length=b.length then zmb a b else zke a.length b.length
theorem znZ:∀(a b:List Int),a.length=b.length->(zmb a b<0↔zhg a b=true)
 | [],[],_=>by simp[zmb,zhg]
 | x::a,y::b,h=>by
  have ih:=znZ a b (by simpa using h)
  unfold zmb zhg zke
  by_cases h1:x<y
  ·have:¬x=y:=by omega
   simp[h1,this]
  ·by_cases h2:y<x
   ·have:¬x=y:=by omega
    simp[h1,h2,this]
   ·have:x=y:=by omega
    subst this
    simp[ih]
theorem zf1 {a b:List Int}:zqc a b<0↔za7 a b=true:=by
 unfold zqc za7
 by_cases h:a.length=b.length
 ·rw[if_pos h,if_pos h];exact znZ a b h
 ·rw[if_neg h,if_neg h]
  unfold zke
  by_cases h1:(a.length:Int)<b.length
  ·rw[if_pos h1,qD (by omega:a.length<b.length)];simp
  ·rw[if_neg h1,qE (by omega:¬a.length<b.length)]
   by_cases h2:(b.length:Int)<a.length
   ·rw[if_pos h2];simp
   ·omega
theorem zqd {a b:List Int} {i:Nat} (ha:i<a.length) (hb:i<b.length):zmb (a.drop i) (b.drop i)=if zke (zbi a i) (zbi b i)=0 then zmb (a.drop (i+1)) (b.drop (i+1)) else zke (zbi a i) (zbi b i):=by
 rw[zdn a i ha,zdn b i hb];rfl
theorem zu9 (x y:Int) (w:World):Calls Tryz.prog 137 #[.int .i64 x,.int .i64 y] w fun e w'=>e=.returned (.int .i64 (zke x y))/\w'=w:=by
 have hx:(x != x)=false:=by simp
 have hy:(y != y)=false:=by simp
 go_enter Tryz.func137,Tryz.ntmps137
 by_cases h1:x<y
 ·have HE:Hid (zke x y=-1):=zqh (by unfold zke;rw[if_pos h1])
  go_wp2_with go_in
  all_goals (go_ret;exact ⟨by rw[HE.out];rfl,rfl⟩)
 ·by_cases h2:y<x
  ·have h2':x > y:=h2
   have HE:Hid (zke x y=1):=zqh (by unfold zke;rw[if_neg h1,if_pos h2])
   go_wp2_with go_in
   all_goals (go_ret;exact ⟨by rw[HE.out];rfl,rfl⟩)
  ·have h2':¬x > y:=h2
   have HE:Hid (zke x y=0):=zqh (by unfold zke;rw[if_neg h1,if_neg h2])
   go_wp2_with go_in
   all_goals (go_ret;exact ⟨by rw[HE.out];rfl,rfl⟩)
theorem zqe (a b:List Int) (A B:Option Addr) (n c m d:Nat) (w:World) (h:zak w (.slice A n c) a) (h':zak w (.slice B m d) b) :
  Calls Tryz.prog 138 #[.slice A n c,.slice B m d] w fun e w'=>e=.returned (.int .i64 (zmb a b))/\w'=w:=by
 have HI:=zqh h
 have HJ:=zqh h'
 have hm:=h.max
 have hm':=h'.max
 obtain rfl:=h.len
 obtain rfl:=h'.len
 clear h h'
 go_enter Tryz.func138,Tryz.ntmps138
 go_wp2_with fail
 go_loopw [11] (fun v wr=>∃i:Nat,i<=a.length/\i<=b.length/\v=.int .i64 i/\w=wr/\Hid (zmb a b=zmb (a.drop i) (b.drop i))) (fun v _=>a.length-(intOf v).toNat)
 case atStart=>exact ⟨0,qK _,qK _,rfl,rfl,zqh rfl⟩
 case round =>
  obtain ⟨i,hi,hib,rfl,rfl,HN⟩:=hrel
  by_cases hlt:i<a.length
  ·have h1:(0:Int)<=(i:Int):=by omega
   have h2:(i:Int)<(a.length:Int):=by omega
   obtain ⟨ba,oa,rfl,_,q1⟩:=HI.out.at i hlt
   by_cases hlb:i<b.length
   ·have h3:(i:Int)<(b.length:Int):=by omega
    have h4:¬((b.length:Int)<=(i:Int)):=by omega
    have h4':¬((i:Int)≥(b.length:Int)):=by omega
    obtain ⟨bb,ob,rfl,_,q2⟩:=HJ.out.at i hlb
    have hst:=zqh (HN.out.trans (zqd hlt hlb))
    obtain ⟨x,hx⟩:∃x,zbi a i=x:=⟨_,rfl⟩
    obtain ⟨y,hy⟩:∃y,zbi b i=y:=⟨_,rfl⟩
    rw[hx] at q1 hst
    rw[hy] at q2 hst
    clear hx hy
    obtain ⟨z,hz⟩:∃z,zke x y=z:=⟨_,rfl⟩
    have HZ:=zqh hz
    clear hz
    by_cases hz0:z=0
    ·have hz1:(z != 0)=false:=by simp[hz0]
     go_wp2_with fail
     refine (zu9 x y _).mono ?_
     rintro e w3 ⟨rfl,rfl⟩
     rw[HZ.out]
     go_wp2_with fail
     refine ⟨⟨i+1,by omega,by omega,by go_num,by first | rfl | trivial,zqh (by have:=hst.out;rwa [HZ.out,if_pos hz0] at this)⟩,by simp[intOf];omega⟩
    ·have hz1:(z != 0)=true:=by simp[hz0]
     go_wp2_with fail
     refine (zu9 x y _).mono ?_
     rintro e w3 ⟨rfl,rfl⟩
     rw[HZ.out]
     go_wp2_with fail
     go_ret
     refine ⟨?_,rfl⟩
     have:=hst.out
     rw[HZ.out,if_neg hz0] at this
     rw[this];rfl
   ·obtain rfl:i=b.length:=by omega
    have h4':(b.length:Int)≥(b.length:Int):=by omega
    go_wp2_with fail
    go_ret
    refine ⟨?_,rfl⟩
    rw[HN.out,zdn a _ hlt,kW];rfl
  ·obtain rfl:i=a.length:=by omega
   have hN:Hid (zmb a b=zmb [] (b.drop a.length)):=zqh (by have:=HN.out;rwa [kW] at this)
   by_cases hlb:a.length<b.length
   ·have h3:(a.length:Int)<(b.length:Int):=by omega
    go_wp2_with fail
    go_ret
    refine ⟨?_,rfl⟩
    rw[hN.out,zdn b _ hlb];rfl
   ·have h3:¬((a.length:Int)<(b.length:Int)):=by omega
    have he:Hid (zmb a b=0):=zqh (by rw[hN.out,show a.length=b.length by omega,kW];rfl)
    go_wp2_with fail
    go_ret
    exact ⟨by rw[he.out];rfl,rfl⟩
theorem zvC (a b:List Int) (A B:Option Addr) (n c m d:Nat) (w:World) (h:zak w (.slice A n c) a) (h':zak w (.slice B m d) b) :
  Calls Tryz.prog 99 #[.slice A n c,.slice B m d] w fun e w'=>e=.returned (.int .i64 (zqc a b))/\w'=w:=by
 have HI:=zqh h
 have HJ:=zqh h'
 have hm:=h.max
 have hm':=h'.max
 obtain rfl:=h.len
 obtain rfl:=h'.len
 clear h h'
 go_enter Tryz.func99,Tryz.ntmps99
 unfold zqc
 by_cases hl:a.length=b.length
 ·have h1:((a.length:Int) != (b.length:Int))=false:=by simp[hl]
  rw[if_pos hl]
  have HL:=zqh hl
  clear hl
  go_wp2_with fail
  refine (zqe a b A B _ c _ d _ HI.out HJ.out).mono ?_
  rintro e w3 ⟨rfl,rfl⟩
  go_wp2_with fail
  go_ret
  exact ⟨rfl,rfl⟩
 ·have h1:((a.length:Int) != (b.length:Int))=true:=by simp;omega
  rw[if_neg hl]
  go_wp2_with fail
  refine (zu9 _ _ _).mono ?_
  rintro e w3 ⟨rfl,rfl⟩
  go_wp2_with fail
  go_ret
  exact ⟨rfl,rfl⟩
def upS:Int->List Int->Bool
 | _,[]=>true
 | l,x::r=>decide (l<x)&&upS x r
theorem zn0:∀(l:Int) (p:List Int),upS l p=true↔Up p/\∀x∈p,l<x
 | l,[]=>by simp[upS,Up]
 | l,x::r=>by
  unfold upS
  rw[qR,zn0 x r]
  unfold Up
  rw[List.pairwise_cons]
  simp only[qY,kB,forall_eq_or_imp]
  constructor
  ·rintro ⟨h,h1,h2⟩;exact ⟨⟨h2,h1⟩,h,fun y hy=>by have:=h2 y hy;omega⟩
  ·rintro ⟨⟨h2,h1⟩,h,h3⟩;exact ⟨h,h1,h2⟩
theorem zt8 (a:List Int) (A:Option Addr) (n c:Nat) (w:World) (h:zak w (.slice A n c) a) :
  Calls Tryz.prog 98 #[.slice A n c] w fun e w'=>e=.returned (.bool (upS (-1) a))/\w'=w:=by
 have HI:=zqh h
 have hm:=h.max
 obtain rfl:=h.len
 clear h
 go_enter Tryz.func98,Tryz.ntmps98
 go_wp2_with fail
 go_loopw [3,8] (fun u v wr=>∃(i:Nat) (l:Int),i<=a.length/\v=.int .i64 i/\u=.int .i64 l/\w=wr/\Hid (upS (-1) a=upS l (a.drop i))) (fun _ v _=>a.length-(intOf v).toNat)
 case atStart=>exact ⟨0,-1,qK _,rfl,rfl,rfl,zqh rfl⟩
 case round =>
  obtain ⟨i,l,hi,rfl,rfl,rfl,HN⟩:=hrel
  by_cases hlt:i<a.length
  ·have h1:(0:Int)<=(i:Int):=by omega
   have h2:(i:Int)<(a.length:Int):=by omega
   obtain ⟨ba,oa,rfl,_,q1⟩:=HI.out.at i hlt
   have hst:Hid (upS (-1) a=(decide (l<zbi a i)&&upS (zbi a i) (a.drop (i+1)))):=zqh (by rw[HN.out,zdn a i hlt];rfl)
   obtain ⟨x,hx⟩:∃x,zbi a i=x:=⟨_,rfl⟩
   rw[hx] at q1 hst
   clear hx
   by_cases hz:l<x
   ·have h3:¬(x<=l):=by omega
    go_wp2_with fail
    refine ⟨⟨i+1,x,by omega,by go_num,rfl,by first | rfl | trivial,zqh (by rw[hst.out,qD hz,jS])⟩,by simp[intOf];omega⟩
   ·have h3:x<=l:=by omega
    go_wp2_with fail
    go_ret
    refine ⟨?_,rfl⟩
    rw[hst.out,qE (by omega:¬l<x),yC];rfl
  ·obtain rfl:i=a.length:=by omega
   go_wp2_with fail
   go_ret
   refine ⟨?_,rfl⟩
   rw[HN.out,kW];rfl
end

section
open Go.RowKit
def zcX (m:Nat) (l:List Int):Prop:=m<18446744073709551616/\∀i,i<64->m.testBit i=l.any (fun n=>n.toNat % 64==i)
theorem zla:zcX 0 []:=⟨by omega,fun i _=>by simp⟩
theorem zn1 {m:Nat} {l:List Int} {n:Int} (h:zcX m l):zcX (m ||| 2 ^ (n.toNat % 64)) (l++[n]):=by
 have hlt:n.toNat % 64<64:=Nat.mod_lt _ (by omega)
 refine ⟨Nat.or_lt_two_pow (n:=64) h.1 (Nat.pow_lt_pow_right (by omega) hlt),fun i hi=>?_⟩
 rw[Nat.testBit_or,h.2 i hi,Nat.testBit_two_pow,yX]
 by_cases e:n.toNat % 64=i<;>simp[e]
theorem zsE {m m':Nat} {l l' k:List Int} (h:zcX m l) (h':zcX m' l') (hk:∀x,x∈k↔x∈l\/x∈l'):zcX (m ||| m') k:=by
 refine ⟨Nat.or_lt_two_pow (n:=64) h.1 h'.1,fun i hi=>?_⟩
 rw[Nat.testBit_or,h.2 i hi,h'.2 i hi,qZ]
 simp only[yS,jI,beq_iff_eq]
 constructor
 ·rintro (⟨x,hx,e⟩ | ⟨x,hx,e⟩)
  ·exact ⟨x,(hk x).2 (.inl hx),e⟩
  ·exact ⟨x,(hk x).2 (.inr hx),e⟩
 ·rintro ⟨x,hx,e⟩
  rcases (hk x).1 hx with h | h
  ·exact .inl ⟨x,h,e⟩
  ·exact .inr ⟨x,h,e⟩
theorem zva (n:Nat):bits .and .i64 (n:Int) 63=((n % 64:Nat):Int):=by
 have h127:(BitVec.ofInt 64 63).toNat=2 ^ 6-1:=by decide
 have key:(BitVec.ofInt 64 (n:Int) &&& BitVec.ofInt 64 63).toNat=((n:Int) % ((2 ^ 64:Nat):Int)).toNat % 2 ^ 6:=by
  rw[BitVec.toNat_and,BitVec.toNat_ofInt,h127,kJ]
 show IntKind.i64.wrap ((BitVec.ofInt 64 (n:Int) &&& BitVec.ofInt 64 63).toNat:Nat)=_
 rw[key,yY]
 omega
theorem zfP (a:List Int) (A:Option Addr) (n c:Nat) (w:World) (h:zak w (.slice A n c) a) (h0:∀x∈a,0<=x) :
  Calls Tryz.prog 145 #[.slice A n c] w fun e w'=>∃m:Nat,e=.returned (.agg #[.slice A a.length c,.int .u64 m])/\zcX m a/\Below w.heap.size w w':=by
 have HI:=zqh h
 have hm:=h.max
 obtain rfl:=h.len
 have H0:=zqh h0
 clear h h0
 go_enter Tryz.func145,Tryz.ntmps145
 have hBw:Below w.heap.size w (w.alloc (.cells #[.slice none 0 0,.int .u64 0] 171)):=zqb
 have hAt:At (w.alloc (.cells #[.slice none 0 0,.int .u64 0] 171)) w.heap.size 171 #[.slice none 0 0,.int .u64 0]:=At.new _ _ _
 go_wp2_with fail
 generalize w.alloc (.cells #[.slice none 0 0,.int .u64 0] 171)=W at hBw hAt ⊢
 have HB:=zqh hBw
 have HA:=zqh hAt
 have HJ:=zqh (HI.out.next hBw)
 clear hBw hAt
 go_loopw [3,8] (fun u v wr=>∃(i m:Nat),i<=a.length/\v=.int .i64 i/\u=.int .u64 m/\W=wr/\Hid (zcX m (a.take i))) (fun _ v _=>a.length-(intOf v).toNat)
 case atStart=>exact ⟨0,0,qK _,rfl,rfl,rfl,zqh zla⟩
 case round =>
  obtain ⟨i,m,hi,rfl,rfl,rfl,HN⟩:=hrel
  by_cases hlt:i<a.length
  ·have h1:(0:Int)<=(i:Int):=by omega
   have h2:(i:Int)<(a.length:Int):=by omega
   obtain ⟨ba,oa,rfl,hb,q1⟩:=HJ.out.at i hlt
   have hst:Hid (zcX (m ||| 2 ^ ((zbi a i).toNat % 64)) (a.take (i+1))):=zqh (by rw[zct a i hlt,<-zay hlt];exact zn1 HN.out)
   have hx0:0<=zbi a i:=H0.out _ (by rw[zay hlt];exact qG hlt)
   obtain ⟨x,hx⟩:∃x,zbi a i=x:=⟨_,rfl⟩
   rw[hx] at q1 hst hx0
   clear hx
   obtain ⟨k,rfl⟩:=Int.eq_ofNat_of_zero_le hx0
   rw[xO] at hst
   have hk:k % 64<64:=Nat.mod_lt _ (by omega)
   have e1:bits .and .i64 (k:Int) 63=((k % 64:Nat):Int):=zva k
   have hp:(2:Int) ^ (k % 64)=((2 ^ (k % 64):Nat):Int):=by rw[Int.natCast_pow];rfl
   have e2:IntKind.u64.wrap ((2:Int) ^ (k % 64))=(2:Int) ^ (k % 64):=by
    have h3:=Nat.pow_lt_pow_right (a:=2) (by omega) hk
    rw[hp]
    obtain ⟨z,hz⟩:∃z,2 ^ (k % 64)=z:=⟨_,rfl⟩
    rw[hz] at h3 ⊢
    simp[IntKind.wrap,IntKind.bits,IntKind.signed];omega
   have e3:bits .or .u64 (m:Int) ((2:Int) ^ (k % 64))=((m ||| 2 ^ (k % 64):Nat):Int):=by rw[hp];exact zfx _ _ HN.out.1 (Nat.pow_lt_pow_right (by omega) hk)
   clear hp
   go_wp2_with fail
   refine ⟨⟨i+1,m ||| 2 ^ (k % 64),by omega,by go_num,by rfl,by first | rfl | trivial,hst⟩,by simp[intOf];omega⟩
  ·obtain rfl:i=a.length:=by omega
   have a0:=HA.out.cell 0
   have a1:=HA.out.cell 1
   have f0:=HA.out.free 0
   have f1:=HA.out.free 1
   go_wp2_with fail
   exact yD (results_cell_row Tryz.results145 _ _ w.heap.size 171 #[.slice A a.length c,.int .u64 m] (0,0) _ rfl ((HA.out.set 0 _).set 1 _) Tryz.underlying171 rfl (by kernel_rfl)) rfl
    ⟨m,rfl,by have:=HN.out;rwa [qQ] at this,(HB.out.setCell (p:=⟨w.heap.size,0,none⟩) zqn _).setCell (p:=⟨w.heap.size,1,none⟩) zqn _⟩
end
end Go.Proofs.YtdmodhnhldbpnaaGreat
