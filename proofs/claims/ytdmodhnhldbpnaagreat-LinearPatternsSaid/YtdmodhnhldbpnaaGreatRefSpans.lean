/- What the reference's Spans answers. What the reference's Spans answers. What the reference's Spans answers. What the reference's Spans answers. What the reference's Spans answers. What the reference's Spans answers. What the reference's Spans answers. What the reference's Spans answers, at each formed pattern. -/
import Derived.Test.YtdmodhnhldbpnaaGreatProg
import Derived.Test.YtdmodhnhldbpnaaGreatMaa
import Derived.Test.YtdmodhnhldbpnaaGreatMac
import Derived.Test.YtdmodhnhldbpnaaGreatMab
import Derived.Deep.RegionWith
import Derived.BigRegion
import Derived.BigQuiet
import Derived.StillTailTactics
import Derived.Deep.RegionHeld3
import Derived.Test.YtdmodhnhldbpnaaGreatMzy
import Derived.Test.YtdmodhnhldbpnaaGreatAid
set_option linter.unusedSimpArgs false
set_option linter.unusedVariables false
set_option maxHeartbeats 8000000
set_option maxRecDepth 100000
namespace Go.Proofs.YtdmodhnhldbpnaaGreat
open Go.RowKit
theorem znY (k:Nat) (l:List Nat) (ih:zmE k l) (t:Tr) (A:Option Addr) (c:Nat) (w:World) (h:Tr.In w (k+1) t) (hs:zeP (k+1) t) (hf:zah (k+1) t=true) (hw:zdf w A l.length l) (hl10:l.length<=10) (hkk:0<=t.kind/\t.kind<=11) :
  Calls Tryz.prog 20 #[.agg t.cs.toArray,.slice A l.length c] w (zcq w (l.length+1) (zae l (k+1) t)):=by
 obtain ⟨n,hn⟩:∃n,n=l.length+1:=⟨_,rfl⟩
 obtain ⟨wl,hwl⟩:∃wl,wl=l.length:=⟨_,rfl⟩
 rw[<-hn]
 have HL:Hid (n=l.length+1):=hn
 have hnw:n=wl+1:=by omega
 have hn11:n<=1000:=by omega
 have HNW:=zqh hnw
 rw[<-hwl] at hl10 hw ⊢
 have HWl:=zqh hwl
 have HWb:=zqh hw
 have HI:=zqh h
 have HSl:=zqh hs
 have HFo:=zqh hf
 have HIH:=zqh ih
 have hpn:=h.2.1.1
 have HN:=zqh hpn
 have hp2000:t.parts.length<=2000:=hs.1
 have HKK:=zqh hkk
 clear h hs hf ih hn hwl hw hnw hkk
 obtain ⟨i0,hi0,hz0,hz1,hz2⟩:=yZ zlu
 have HC:=zqh (At.tr_cell (At.new w 49 t.cs.toArray))
 have hcell:=HC.out.2.1
 go_enter Tryz.func20,Tryz.ntmps20
 go_wp2_with fail
 go_loopw [6,21] (fun v x wr=>∃(j:Nat) (ts:List TG),j<=t.parts.length/\x=.int .i64 j/\ts.length=j/\Hid (zb0 wr (w.heap.size+1) v n ts ((t.parts.take j).map (zae l k)))/\Hid (At wr w.heap.size 49 t.cs.toArray)/\Hid (Below w.heap.size w wr)) (fun _ x _=>t.parts.length-(intOf x).toNat)
 case atStart=>exact ⟨0,[],qK _,rfl,rfl,zqh (zb0.nil _ _ _),zqh (At.new _ _ _),zqh (zqb)⟩
 case round =>
  obtain ⟨j,ts,hj,rfl,htl,HTs,HAt,HB⟩:=hrel
  clear hcell
  by_cases hlt:j<t.parts.length
  ·have hcell:=(At.tr_cell HAt.out).2.1
   obtain ⟨b,off,ha,hb,hr⟩:=HI.out.2.2.1 (by rw[HN.out];omega)
   have HR:=zqh (zaE (hr j hlt) hb zqn HB.out)
   have HP:=zqh (Tr.In.next (HI.out.2.2.2 j hlt) HB.out)
   have HPs:=zqh (HSl.out.2 _ (qG hlt))
   have HPf:=zqh (zjB HFo.out hlt)
   clear hr hb
   rw[ha] at hcell
   clear ha
   have hjz:(0:Int)<=(j:Int):=by omega
   have hjn:(j:Int)<(t.parts.length:Int):=by omega
   go_wp2_with (refine wpList_load_mid rfl 49 _ rfl b (off+j*9) rfl t.parts[j].cs _ HR.out Tryz.underlying49 rfl (by rw[Tr.cs_length];kernel_rfl) ?_)
   have hih:=HIH.out t.parts[j] A c wr HP.out HPs.out HPf.out (by rw[<-HWl.out];exact HWb.out.below HB.out) (by rw[<-HWl.out];exact hl10)
   rw[<-HWl.out,<-HNW.out] at hih
   refine hih.mono ?_
   clear hih
   rintro e w3 ⟨g2,r2,rfl,hT2,hb3⟩
   have hws:=HB.out.size
   have hat1:=HAt.out.lt
   have HTs3:=zqh (HTs.out.next hb3)
   have HAt3:=zqh (HAt.out.step hb3 rfl)
   have HB3:=zqh (HB.out.trans (hb3.mono hws))
   have HT2:=zqh (hT2.lower (show w.heap.size+1<=wr.heap.size by omega))
   have hw3:=hb3.size
   have HNew:Hid (∀bb,u6.ownBlock=some bb->g2≠bb/\∀i,i<n->r2 i≠bb):=fun bb hbb=>by
    have hlt2:=(World.ownsRow.lt HTs.out.own bb hbb).2
    exact ⟨by have:=hT2.low;omega,fun i hi=>by have:=(hT2.rlow i hi).1;omega⟩
   clear hb3 hcell hT2
   go_wp2_with (first
    |(at_builtin
      refine wpList_append_lies _ rfl _ _ _ rfl (w.heap.size+1) 36 i0 _ 1 24 Tryz.underlying37 hi0 hz0 hz1 hz2 rfl (by omega) u6 _ _ rfl (HTs3.out.next (zqb)).own ⟨w3.heap.size,0,none⟩ 1 1 [tv n (g2,r2)] rfl rfl ?c1 ?c2 (by omega) ?c3 ?c4 ?c5 _ rfl ?_
      case c1=>exact (cell_one_new _ _ _)
      case c2=>simp[Value.oneCell',tv]
      case c3=>unfold maxLen;omega
      case c4=>omega
      case c5=>simp;omega
      intro g cap w4 hown4 hg4 hat4 hlt4))
   refine ⟨⟨j+1,ts++[(g2,r2)],by omega,by go_num,by simp[htl],zqh ?_,zqh ?_,zqh ?_⟩,by simp[intOf];omega⟩
   ·have hpush:=zb0.push (HTs3.out.next (zqb)) (HT2.out.next (zqb)) hown4 hg4 hat4 zqn HNew.out
    rw[htl] at hpush
    rw[qW hlt,jE,jW,kL]
    exact hpush
   ·exact At.grown' (HAt3.out.alloc _) hg4 (fun e=>by have:=(World.ownsRow.lt HTs.out.own _ e.symm).1;omega)
   ·exact ziA (HB3.out.alloc (by omega) _) (by simp;omega) hg4 (fun bb hbb=>by have:=(World.ownsRow.lt HTs.out.own bb hbb).1;omega)
  ·obtain rfl:j=t.parts.length:=by omega
   have hts:=HTs.out
   rw[qQ] at hts
   have HTs:=zqh hts
   clear hts
   have hkk2:t.kind=0\/t.kind=1\/t.kind=2\/t.kind=3\/t.kind=4\/t.kind=5\/t.kind=6\/t.kind=7\/t.kind=8\/t.kind=9\/t.kind=10\/t.kind=11:=by have:=HKK.out;omega
   rcases hkk2 with hk | hk | hk | hk | hk | hk | hk | hk | hk | hk | hk | hk
   ·have HK:=zqh hk
    have HS:Hid (zae l (k+1) t=noF):=zrp hk HL.out
    have c0:=(At.tr_cell HAt.out).1
    rw[hk] at c0
    clear hk
    go_wp2_with fail
    refine (zbl n (by omega) _ (by have:=HNW.out;omega) _).mono ?_
    rintro e w2 ⟨g2,r2,rfl,hg2,hb2⟩
    have HW:=zqh HB.out.size
    have HAt:=zqh (HAt.out.step hb2 rfl)
    have HTs:=zqh (HTs.out.next hb2)
    have HB:=zqh (HB.out.trans (hb2.mono HB.out.size))
    have HT2:=zqh (hg2.lower HW.out)
    clear hg2 hb2
    clear c0
    have c0:=(At.tr_cell HAt.out).1
    rw[HK.out] at c0
    go_wp2_with fail
    go_ret
    exact ⟨g2,r2,rfl,by rw[HS.out];exact HT2.out,HB.out⟩
   ·have HK:=zqh hk
    have HS:Hid (zae l (k+1) t=eqF):=zrq hk HL.out
    have c0:=(At.tr_cell HAt.out).1
    rw[hk] at c0
    clear hk
    go_wp2_with fail
    refine (zbl n (by omega) _ (by have:=HNW.out;omega) _).mono ?_
    rintro e w2 ⟨g2,r2,rfl,hg2,hb2⟩
    have HW:=zqh HB.out.size
    have HAt:=zqh (HAt.out.step hb2 rfl)
    have HTs:=zqh (HTs.out.next hb2)
    have HB:=zqh (HB.out.trans (hb2.mono HB.out.size))
    have HT2:=zqh (hg2.lower HW.out)
    clear hg2 hb2
    clear c0
    have c0:=(At.tr_cell HAt.out).1
    rw[HK.out] at c0
    go_wp2_with fail
    refine (zmG n (by omega) _ (by have:=HNW.out;omega) _).mono ?_
    rintro e w3 ⟨g2,r2,rfl,hg2,hb2⟩
    have HW:=zqh HB.out.size
    have HAt:=zqh (HAt.out.step hb2 rfl)
    have HTs:=zqh (HTs.out.next hb2)
    have HB:=zqh (HB.out.trans (hb2.mono HB.out.size))
    have HT2:=zqh (hg2.lower HW.out)
    clear hg2 hb2 c0
    go_wp2_with fail
    go_ret
    exact ⟨g2,r2,rfl,by rw[HS.out];exact HT2.out,HB.out⟩
   ·have HK:=zqh hk
    have HS:Hid (zae l (k+1) t=zbL t.set l):=zrr hk HL.out
    have c0:=(At.tr_cell HAt.out).1
    rw[hk] at c0
    clear hk
    go_wp2_with fail
    refine (zbl n (by omega) _ (by have:=HNW.out;omega) _).mono ?_
    rintro e w2 ⟨g2,r2,rfl,hg2,hb2⟩
    have HW:=zqh HB.out.size
    have HAt:=zqh (HAt.out.step hb2 rfl)
    have HTs:=zqh (HTs.out.next hb2)
    have HB:=zqh (HB.out.trans (hb2.mono HB.out.size))
    have HT2:=zqh (hg2.lower HW.out)
    clear hg2 hb2
    clear c0
    have c0:=(At.tr_cell HAt.out).1
    rw[HK.out] at c0
    go_wp2_with fail
    clear c0
    have HD:Hid (zau w2 41 4 w.heap.size g2 n r2 (zcr (zbL t.set l) 0)):=zqh (HT2.out.congr (fun i j _ _=>(zet _ i j).symm))
    clear HT2
    have HSo:=zqh HI.out.1.1
    go_wp2_with fail
    go_loopw [47] (fun x wr=>∃i:Nat,i<=wl/\x=.int .i64 i/\Hid (zau wr 41 4 w.heap.size g2 n r2 (zcr (zbL t.set l) i))/\Hid (At wr w.heap.size 49 t.cs.toArray)/\Hid (Below w.heap.size w wr)) (fun x _=>wl-(intOf x).toNat)
    case atStart=>exact ⟨0,qK _,rfl,HD,HAt,HB⟩
    case round =>
     clear HD HB HAt
     obtain ⟨i,hi,rfl,HD,HAt,HB⟩:=hrel
     by_cases hlt0:i<wl
     ·have hlt:i<n:=by have:=HNW.out;omega
      have hlt1:i+1<n:=by have:=HNW.out;omega
      have hin:(i:Int)<(n:Int):=by omega
      have hin1:(i:Int)+1<(n:Int):=by omega
      have hi0:(0:Int)<=(i:Int):=by omega
      have hi1:(0:Int)<=(i:Int)+1:=by omega
      have hiw:(i:Int)<(wl:Int):=by omega
      have hml:i<l.length:=by have:=HWl.out;omega
      obtain ⟨b,off,hA,hb,hc⟩:=(HWb.out.below HB.out).2.2.2 (by omega)
      have q1:=hc i hml
      have hx256:=HWb.out.2.2.1 i hml
      obtain ⟨x,hx⟩:∃x:Nat,l[i]=x:=⟨_,rfl⟩
      rw[hx] at q1 hx256
      have HX:Hid ((l[i]?).getD 0=x):=by rw[qI hml,<-hx];exact rfl
      obtain ⟨v,hv⟩:∃v:Bool,t.set.has x=v:=⟨_,rfl⟩
      have HV:=zqh hv
      have hbw:b<w.heap.size:=by
       obtain ⟨b',off',hA',hb',_⟩:=HWb.out.2.2.2 (by omega)
       rw[hA] at hA'
       injection hA' with hA'
       injection hA' with e1 _ _
       omega
      clear hx hc hb hv
      subst hA
      have q5:=HD.out.cellTop hlt
      obtain ⟨c0,c1,c2,c3,c4,c5,c6,c7,c8⟩:=At.tr_cells HAt.out
      clear c0 c5 c6 c7 c8
      have hrl:=HD.out.rlow i hlt
      have hr1:r2 i≠g2:=hrl.2
      have hr2:w.heap.size<=r2 i:=hrl.1
      have hr3:r2 i≠w.heap.size:=(zoQ HAt.out (HD.out.row i hlt) (by decide)).symm
      have hr4:r2 i≠b:=by omega
      clear hrl
      have hwi:IntKind.i64.wrap ((i:Int)+1)=(i:Int)+1:=by rw[yY];omega
      have hti:((i:Int)+1).toNat=i+1:=by omega
      have hwx:IntKind.i64.wrap (x:Int)=(x:Int):=by rw[yY];omega
      go_wp2_with fail
      go_region_held3 (fun w'=>w'.cell? ⟨g2,i,none⟩=some (.slice (some ⟨r2 i,0,none⟩) n n)/\w'.cell? ⟨w.heap.size,1,none⟩=some (.int .u64 t.set.w0)/\w'.cell? ⟨w.heap.size,2,none⟩=some (.int .u64 t.set.w1)/\w'.cell? ⟨w.heap.size,3,none⟩=some (.int .u64 t.set.w2)/\w'.cell? ⟨w.heap.size,4,none⟩=some (.int .u64 t.set.w3)/\w'.cell? ⟨b,off+i,none⟩=some (.int .u8 x))
       (first | go_keep | exact ⟨s5,s1,s2,s3,s4,sb⟩ | fail)
       ((go_at_call 30
         (with_reducible refine (zrH t.set HSo.out x hx256 v HV.out _).mono ?_)
         rintro e w3 ⟨rfl,hb3⟩
         have HD3:=zqh (HD.out.drew.next hb3)
         have HAt3:=zqh (HAt.out.drew.below hb3 (At.lt HAt.out.drew))
         have HB3:=zqh (zaf HB.out hb3 rfl rfl rfl rfl)
         have s5:=HD3.out.cellTop hlt
         obtain ⟨_,s1,s2,s3,s4,_,_,_,_⟩:=At.tr_cells HAt3.out
         have sb:=((zbW hb3).1 b (off+i) (by have:=HB.out.size;simp;omega)).trans q1
         have s6:=HD3.out.cellRow hlt hlt1
         have s7:=HD3.out.freeRow hlt (i+1)
         clear hb3 q1 q5 c1 c2 c3 c4))
      go_wp2_with fail
      go_roundw
      case rel=>exact ⟨i+1,by omega,by go_num,zqh ((HD3.out.put (i+1) hlt v).congr (fun i' j' _ _=>zbY (fun j hj=>zoO hj) (zro hml HX.out HV.out.symm) i' j')),zqh (HAt3.out.other hr3.symm _),zqh (HB3.out.setCell hr2 _)⟩
      case measure=>simp[intOf];omega
     ·obtain rfl:i=wl:=by omega
      go_wp2_with fail
      go_ret
      exact ⟨g2,r2,rfl,by rw[HS.out];exact HD.out.congr (fun i' j' h _=>by unfold zcr;split;rfl;exact (zmF (by have:=HWl.out;omega)).symm),HB.out⟩
   ·have HK:=zqh hk
    have HS:Hid (zae l (k+1) t=(t.parts.map (zae l k)).foldl (fun f g=>zaF f g n) eqF):=zrs hk HL.out
    have c0:=(At.tr_cell HAt.out).1
    rw[hk] at c0
    clear hk
    go_wp2_with fail
    refine (zbl n (by omega) _ (by have:=HNW.out;omega) _).mono ?_
    rintro e w2 ⟨g2,r2,rfl,hg2,hb2⟩
    have HW:=zqh HB.out.size
    have HAt:=zqh (HAt.out.step hb2 rfl)
    have HTs:=zqh (HTs.out.next hb2)
    have HB:=zqh (HB.out.trans (hb2.mono HB.out.size))
    have HT2:=zqh (hg2.lower HW.out)
    clear hg2 hb2
    clear c0
    have c0:=(At.tr_cell HAt.out).1
    rw[HK.out] at c0
    go_wp2_with fail
    refine (zmG n (by omega) _ (by have:=HNW.out;omega) _).mono ?_
    rintro e w3 ⟨g2,r2,rfl,hg2,hb2⟩
    have HW:=zqh HB.out.size
    have HAt:=zqh (HAt.out.step hb2 rfl)
    have HTs:=zqh (HTs.out.next hb2)
    have HB:=zqh (HB.out.trans (hb2.mono HB.out.size))
    have HO:Hid (Own w3 w.heap.size g2 n (((t.parts.map (zae l k)).take 0).foldl (fun f g=>zaF f g n) eqF)):=Own.of hg2 HW.out
    clear hg2 hb2 c0
    obtain ⟨A6,cap6,hv6⟩:=HTs.out.len_form
    have hlenT:=HTs.out.len
    subst hv6
    go_wp2_with fail
    go_loopw [8,72] (fun tvv x wr=>∃(j gt:Nat),j<=ts.length/\x=.int .i64 j/\tvv=.slice (some ⟨gt,0,none⟩) n n/\Hid (Own wr w.heap.size gt n (((t.parts.map (zae l k)).take j).foldl (fun f g=>zaF f g n) eqF))/\Hid (zb0 wr (w.heap.size+1) (.slice A6 ts.length cap6) n ts (t.parts.map (zae l k)))/\Hid (Below w.heap.size w wr)) (fun _ x _=>ts.length-(intOf x).toNat)
    case atStart=>exact ⟨0,_,qK _,rfl,rfl,HO,HTs,HB⟩
    case round =>
     clear HO HTs HB HAt
     obtain ⟨j,gt,hj,rfl,rfl,HO,HTs,HB⟩:=hrel
     have hlenT:=HTs.out.len
     by_cases hltj:j<ts.length
     ·have hltf:j<(t.parts.map (zae l k)).length:=by omega
      obtain ⟨gr,capr,hvr,_,_⟩:=HTs.out.form (by omega)
      injection hvr with hA6 _ hcap
      subst hA6
      subst hcap
      have hc:=HTs.out.cell j hltj
      have hTj:=zqh ((HTs.out.tab j hltj hltf).tin)
      have hj0:(0:Int)<=(j:Int):=by omega
      have hjn:(j:Int)<(ts.length:Int):=by omega
      go_wp2_with fail
      refine (zgv n gt ts[j].1 _ _ (by omega) _ HO.out.tin hTj.out).mono ?_
      rintro e w4 ⟨g4,r4,rfl,hT4,hb4⟩
      have HO4:Hid (Own w4 w.heap.size g4 n (((t.parts.map (zae l k)).take (j+1)).foldl (fun f g=>zaF f g n) eqF)):=by
       rw[qW hltf,List.foldl_append]
       exact Own.of hT4 HB.out.size
      have HTs4:=zqh (HTs.out.next hb4)
      have HB4:=zqh (HB.out.trans (hb4.mono HB.out.size))
      clear hT4 hb4 hc
      go_wp2_with fail
      exact ⟨⟨j+1,g4,by omega,by go_num,rfl,HO4,HTs4,HB4⟩,by simp[intOf];omega⟩
     ·obtain rfl:j=ts.length:=by omega
      have ho:=HO.out
      rw[xL (by omega)] at ho
      obtain ⟨rr,hrr⟩:=ho
      have HRR:=zqh hrr
      clear hrr
      go_wp2_with fail
      go_ret
      exact ⟨gt,rr,rfl,by rw[HS.out];exact HRR.out,HB.out⟩
   ·have HK:=zqh hk
    have HS:Hid (zae l (k+1) t=(t.parts.map (zae l k)).foldl (fun f g i j=>f i j||g i j) noF):=zrt hk HL.out
    have c0:=(At.tr_cell HAt.out).1
    rw[hk] at c0
    clear hk
    go_wp2_with fail
    refine (zbl n (by omega) _ (by have:=HNW.out;omega) _).mono ?_
    rintro e w2 ⟨g2,r2,rfl,hg2,hb2⟩
    have HW:=zqh HB.out.size
    have HAt:=zqh (HAt.out.step hb2 rfl)
    have HTs:=zqh (HTs.out.next hb2)
    have HB:=zqh (HB.out.trans (hb2.mono HB.out.size))
    have HT2:=zqh (hg2.lower HW.out)
    clear hg2 hb2
    clear c0
    have c0:=(At.tr_cell HAt.out).1
    rw[HK.out] at c0
    have HO:Hid (Own w2 w.heap.size g2 n (((t.parts.map (zae l k)).take 0).foldl (fun f g i j=>f i j||g i j) noF)):=Own.of HT2.out zqn
    clear HT2
    obtain ⟨A6,cap6,hv6⟩:=HTs.out.len_form
    have hlenT:=HTs.out.len
    subst hv6
    go_wp2_with fail
    go_loopw [8,86] (fun tvv x wr=>∃(j gt:Nat),j<=ts.length/\x=.int .i64 j/\tvv=.slice (some ⟨gt,0,none⟩) n n/\Hid (Own wr w.heap.size gt n (((t.parts.map (zae l k)).take j).foldl (fun f g i j=>f i j||g i j) noF))/\Hid (zb0 wr (w.heap.size+1) (.slice A6 ts.length cap6) n ts (t.parts.map (zae l k)))/\Hid (Below w.heap.size w wr)) (fun _ x _=>ts.length-(intOf x).toNat)
    case atStart=>exact ⟨0,_,qK _,rfl,rfl,HO,HTs,HB⟩
    case round =>
     clear HO HTs HB HAt
     obtain ⟨j,gt,hj,rfl,rfl,HO,HTs,HB⟩:=hrel
     have hlenT:=HTs.out.len
     by_cases hltj:j<ts.length
     ·have hltf:j<(t.parts.map (zae l k)).length:=by omega
      obtain ⟨gr,capr,hvr,_,_⟩:=HTs.out.form (by omega)
      injection hvr with hA6 _ hcap
      subst hA6
      subst hcap
      have hc:=HTs.out.cell j hltj
      have hTj:=zqh ((HTs.out.tab j hltj hltf).tin)
      have hj0:(0:Int)<=(j:Int):=by omega
      have hjn:(j:Int)<(ts.length:Int):=by omega
      go_wp2_with fail
      refine (zgw n gt ts[j].1 _ _ (by omega) _ HO.out.tin hTj.out).mono ?_
      rintro e w4 ⟨g4,r4,rfl,hT4,hb4⟩
      have HO4:Hid (Own w4 w.heap.size g4 n (((t.parts.map (zae l k)).take (j+1)).foldl (fun f g i j=>f i j||g i j) noF)):=by
       rw[qW hltf,List.foldl_append]
       exact Own.of hT4 HB.out.size
      have HTs4:=zqh (HTs.out.next hb4)
      have HB4:=zqh (HB.out.trans (hb4.mono HB.out.size))
      clear hT4 hb4 hc
      go_wp2_with fail
      exact ⟨⟨j+1,g4,by omega,by go_num,rfl,HO4,HTs4,HB4⟩,by simp[intOf];omega⟩
     ·obtain rfl:j=ts.length:=by omega
      have ho:=HO.out
      rw[xL (by omega)] at ho
      obtain ⟨rr,hrr⟩:=ho
      have HRR:=zqh hrr
      clear hrr
      go_wp2_with fail
      go_ret
      exact ⟨gt,rr,rfl,by rw[HS.out];exact HRR.out,HB.out⟩
   ·have HK:=zqh hk
    have HS:Hid (zae l (k+1) t=(t.parts.map (zae l k)).foldl (fun f g i j=>f i j&&g i j) (zaW noF)):=zru hk HL.out
    have c0:=(At.tr_cell HAt.out).1
    rw[hk] at c0
    clear hk
    go_wp2_with fail
    refine (zbl n (by omega) _ (by have:=HNW.out;omega) _).mono ?_
    rintro e w2 ⟨g2,r2,rfl,hg2,hb2⟩
    have HW:=zqh HB.out.size
    have HAt:=zqh (HAt.out.step hb2 rfl)
    have HTs:=zqh (HTs.out.next hb2)
    have HB:=zqh (HB.out.trans (hb2.mono HB.out.size))
    have HT2:=zqh (hg2.lower HW.out)
    clear hg2 hb2
    clear c0
    have c0:=(At.tr_cell HAt.out).1
    rw[HK.out] at c0
    go_wp2_with fail
    refine (zkp n g2 noF (by omega) _ HT2.out.tin).mono ?_
    rintro e w3 ⟨g3,r3,rfl,hg3,hb3⟩
    have HW:=zqh HB.out.size
    have HAt:=zqh (HAt.out.step hb3 rfl)
    have HTs:=zqh (HTs.out.next hb3)
    have HB:=zqh (HB.out.trans (hb3.mono HB.out.size))
    have HO:Hid (Own w3 w.heap.size g3 n (((t.parts.map (zae l k)).take 0).foldl (fun f g i j=>f i j&&g i j) (zaW noF))):=Own.of hg3 HW.out
    clear hg3 hb3 c0 HT2
    obtain ⟨A6,cap6,hv6⟩:=HTs.out.len_form
    have hlenT:=HTs.out.len
    subst hv6
    go_wp2_with fail
    go_loopw [8,102] (fun tvv x wr=>∃(j gt:Nat),j<=ts.length/\x=.int .i64 j/\tvv=.slice (some ⟨gt,0,none⟩) n n/\Hid (Own wr w.heap.size gt n (((t.parts.map (zae l k)).take j).foldl (fun f g i j=>f i j&&g i j) (zaW noF)))/\Hid (zb0 wr (w.heap.size+1) (.slice A6 ts.length cap6) n ts (t.parts.map (zae l k)))/\Hid (Below w.heap.size w wr)) (fun _ x _=>ts.length-(intOf x).toNat)
    case atStart=>exact ⟨0,_,qK _,rfl,rfl,HO,HTs,HB⟩
    case round =>
     clear HO HTs HB HAt
     obtain ⟨j,gt,hj,rfl,rfl,HO,HTs,HB⟩:=hrel
     have hlenT:=HTs.out.len
     by_cases hltj:j<ts.length
     ·have hltf:j<(t.parts.map (zae l k)).length:=by omega
      obtain ⟨gr,capr,hvr,_,_⟩:=HTs.out.form (by omega)
      injection hvr with hA6 _ hcap
      subst hA6
      subst hcap
      have hc:=HTs.out.cell j hltj
      have hTj:=zqh ((HTs.out.tab j hltj hltf).tin)
      have hj0:(0:Int)<=(j:Int):=by omega
      have hjn:(j:Int)<(ts.length:Int):=by omega
      go_wp2_with fail
      refine (zrm n gt ts[j].1 _ _ (by omega) _ HO.out.tin hTj.out).mono ?_
      rintro e w4 ⟨g4,r4,rfl,hT4,hb4⟩
      have HO4:Hid (Own w4 w.heap.size g4 n (((t.parts.map (zae l k)).take (j+1)).foldl (fun f g i j=>f i j&&g i j) (zaW noF))):=by
       rw[qW hltf,List.foldl_append]
       exact Own.of hT4 HB.out.size
      have HTs4:=zqh (HTs.out.next hb4)
      have HB4:=zqh (HB.out.trans (hb4.mono HB.out.size))
      clear hT4 hb4 hc
      go_wp2_with fail
      exact ⟨⟨j+1,g4,by omega,by go_num,rfl,HO4,HTs4,HB4⟩,by simp[intOf];omega⟩
     ·obtain rfl:j=ts.length:=by omega
      have ho:=HO.out
      rw[xL (by omega)] at ho
      obtain ⟨rr,hrr⟩:=ho
      have HRR:=zqh hrr
      clear hrr
      go_wp2_with fail
      go_ret
      exact ⟨gt,rr,rfl,by rw[HS.out];exact HRR.out,HB.out⟩
   ·have HK:=zqh hk
    have HS:Hid (zae l (k+1) t=zaW ((t.parts.map (zae l k)).headD noF)):=zrv hk HL.out
    have c0:=(At.tr_cell HAt.out).1
    rw[hk] at c0
    clear hk
    go_wp2_with fail
    refine (zbl n (by omega) _ (by have:=HNW.out;omega) _).mono ?_
    rintro e w2 ⟨g2,r2,rfl,hg2,hb2⟩
    have HW:=zqh HB.out.size
    have HAt:=zqh (HAt.out.step hb2 rfl)
    have HTs:=zqh (HTs.out.next hb2)
    have HB:=zqh (HB.out.trans (hb2.mono HB.out.size))
    have HT2:=zqh (hg2.lower HW.out)
    clear hg2 hb2
    clear c0
    have c0:=(At.tr_cell HAt.out).1
    rw[HK.out] at c0
    go_wp2_with fail
    have h1:t.parts.length=1:=zdZ HFo.out (by rw[HK.out];decide)
    have hlenT:=HTs.out.len
    rw[qS,h1] at hlenT
    have htl1:ts.length=1:=hlenT
    obtain ⟨A6,cap6,hv6⟩:=HTs.out.len_form
    subst hv6
    obtain ⟨gr,capr,hvr,_,_⟩:=HTs.out.form (by omega)
    injection hvr with hA6 _ hcap
    subst hA6
    subst hcap
    have hjn:(0:Int)<(ts.length:Int):=by omega
    have hc:=HTs.out.cell 0 (by omega)
    obtain ⟨F,hF⟩:∃F,F=(t.parts.map (zae l k))[0]'(by rw[qS,h1];omega):=⟨_,rfl⟩
    have hhd:Hid ((t.parts.map (zae l k)).headD noF=F):=zqh (by rw[hF];exact zeQ _ (by rw[qS,h1];omega))
    have HT0:=HTs.out.tab 0 (by omega) (by rw[qS,h1];omega)
    obtain ⟨p0,hp0⟩:∃p0:TG,p0=ts[0]'(by omega):=⟨_,rfl⟩
    rw[<-hF,<-hp0] at HT0
    rw[<-hp0] at hc
    have hTj:=zqh HT0.tin
    have HTj:=zqh HT0.drew
    clear HT0 hF hp0 h1 hlenT htl1 hpn htl
    clear c0 HT2
    go_wp2_with fail
    refine (zkp n p0.1 _ (by omega) _ hTj.out).mono ?_
    rintro e w3 ⟨g3,r3,rfl,hg3,hb3⟩
    have HW:=zqh HB.out.size
    have HAt:=zqh (HAt.out.step hb3 rfl)
    have HTs:=zqh (HTs.out.next hb3)
    have HB:=zqh (HB.out.trans (hb3.mono HB.out.size))
    have HT2:=zqh (hg3.lower HW.out)
    clear hg3 hb3 hc hTj
    go_wp2_with fail
    go_ret
    exact ⟨g3,r3,rfl,by rw[HS.out,hhd.out];exact HT2.out,HB.out⟩
   ·have HK:=zqh hk
    have HS:Hid (zae l (k+1) t=zcI ((t.parts.map (zae l k)).headD noF) n t.lo.toNat t.hi):=zrw hk HL.out
    have c0:=(At.tr_cell HAt.out).1
    rw[hk] at c0
    clear hk
    go_wp2_with fail
    refine (zbl n (by omega) _ (by have:=HNW.out;omega) _).mono ?_
    rintro e w2 ⟨g2,r2,rfl,hg2,hb2⟩
    have HW:=zqh HB.out.size
    have HAt:=zqh (HAt.out.step hb2 rfl)
    have HTs:=zqh (HTs.out.next hb2)
    have HB:=zqh (HB.out.trans (hb2.mono HB.out.size))
    have HT2:=zqh (hg2.lower HW.out)
    clear hg2 hb2
    clear c0
    have c0:=(At.tr_cell HAt.out).1
    rw[HK.out] at c0
    go_wp2_with fail
    have h1:t.parts.length=1:=zdZ HFo.out (by rw[HK.out];decide)
    have hlenT:=HTs.out.len
    rw[qS,h1] at hlenT
    have htl1:ts.length=1:=hlenT
    obtain ⟨A6,cap6,hv6⟩:=HTs.out.len_form
    subst hv6
    obtain ⟨gr,capr,hvr,_,_⟩:=HTs.out.form (by omega)
    injection hvr with hA6 _ hcap
    subst hA6
    subst hcap
    have hjn:(0:Int)<(ts.length:Int):=by omega
    have hc:=HTs.out.cell 0 (by omega)
    obtain ⟨F,hF⟩:∃F,F=(t.parts.map (zae l k))[0]'(by rw[qS,h1];omega):=⟨_,rfl⟩
    have hhd:Hid ((t.parts.map (zae l k)).headD noF=F):=zqh (by rw[hF];exact zeQ _ (by rw[qS,h1];omega))
    have HT0:=HTs.out.tab 0 (by omega) (by rw[qS,h1];omega)
    obtain ⟨p0,hp0⟩:∃p0:TG,p0=ts[0]'(by omega):=⟨_,rfl⟩
    rw[<-hF,<-hp0] at HT0
    rw[<-hp0] at hc
    have hTj:=zqh HT0.tin
    have HTj:=zqh HT0.drew
    clear HT0 hF hp0 h1 hlenT htl1 hpn htl
    have htf:=ziz HFo.out HK.out
    unfold zba at htf
    obtain ⟨l0,hl0⟩:∃l0:Nat,t.lo=(l0:Int):=⟨t.lo.toNat,by omega⟩
    have hl0n:Hid (t.lo.toNat=l0):=zqh (by omega)
    have Hl0:=zqh hl0
    have Hhi:=zqh htf
    clear htf hl0
    have hcall:∀w1:World,TIn w1 p0.1 n F->Calls Tryz.prog 53 #[.agg #[.int .i64 t.kind,.int .u64 t.set.w0,.int .u64 t.set.w1,.int .u64 t.set.w2,.int .u64 t.set.w3,.slice t.addr t.n t.cap,.int .i64 t.lo,.int .i64 t.hi,.bool t.neg],.slice (some ⟨p0.1,0,none⟩) n n] w1 (zcq w1 n (zcI F n l0 t.hi)):=fun w1 h=>zoL n p0.1 l0 _ t (by omega) Hl0.out (by have:=Hhi.out;have:=Hl0.out;omega) (by have:=Hhi.out;omega) w1 h
    have HBd:=zqh (yF HB.out)
    have hws:=HBd.out.size
    go_wp2_with fail
    clear c0
    obtain ⟨c0,c1,c2,c3,c4,c5,c6,c7,c8⟩:=At.tr_cells HAt.out
    go_region_with (first
     |(go_at_call 53;(with_reducible refine (hcall _ ?_).mono ?_);exact HTj.out.tin;rintro e w3 ⟨g3,r3,rfl,hg3,hb3⟩;have HB3:=zqh (HBd.out.trans (hb3.mono hws));have HT3:=zqh (hg3.lower hws)))
    all_goals go_wp2_with fail
    all_goals go_ret
    all_goals exact ⟨g3,r3,rfl,by rw[HS.out,hhd.out];rw[hl0n.out];exact HT3.out,HB3.out⟩
   ·have HK:=zqh hk
    have HS:Hid (zae l (k+1) t=zdj ((t.parts.map (zae l k)).headD noF) n false t.neg):=zrx hk HL.out
    have c0:=(At.tr_cell HAt.out).1
    rw[hk] at c0
    clear hk
    go_wp2_with fail
    refine (zbl n (by omega) _ (by have:=HNW.out;omega) _).mono ?_
    rintro e w2 ⟨g2,r2,rfl,hg2,hb2⟩
    have HW:=zqh HB.out.size
    have HAt:=zqh (HAt.out.step hb2 rfl)
    have HTs:=zqh (HTs.out.next hb2)
    have HB:=zqh (HB.out.trans (hb2.mono HB.out.size))
    have HT2:=zqh (hg2.lower HW.out)
    clear hg2 hb2
    clear c0
    have c0:=(At.tr_cell HAt.out).1
    rw[HK.out] at c0
    go_wp2_with fail
    have h1:t.parts.length=1:=zdZ HFo.out (by rw[HK.out];decide)
    have hlenT:=HTs.out.len
    rw[qS,h1] at hlenT
    have htl1:ts.length=1:=hlenT
    obtain ⟨A6,cap6,hv6⟩:=HTs.out.len_form
    subst hv6
    obtain ⟨gr,capr,hvr,_,_⟩:=HTs.out.form (by omega)
    injection hvr with hA6 _ hcap
    subst hA6
    subst hcap
    have hjn:(0:Int)<(ts.length:Int):=by omega
    have hc:=HTs.out.cell 0 (by omega)
    obtain ⟨F,hF⟩:∃F,F=(t.parts.map (zae l k))[0]'(by rw[qS,h1];omega):=⟨_,rfl⟩
    have hhd:Hid ((t.parts.map (zae l k)).headD noF=F):=zqh (by rw[hF];exact zeQ _ (by rw[qS,h1];omega))
    have HT0:=HTs.out.tab 0 (by omega) (by rw[qS,h1];omega)
    obtain ⟨p0,hp0⟩:∃p0:TG,p0=ts[0]'(by omega):=⟨_,rfl⟩
    rw[<-hF,<-hp0] at HT0
    rw[<-hp0] at hc
    have hTj:=zqh HT0.tin
    have HTj:=zqh HT0.drew
    clear HT0 hF hp0 h1 hlenT htl1 hpn htl
    have hcall:∀w1:World,TIn w1 p0.1 n F->Calls Tryz.prog 54 #[.agg #[.int .i64 t.kind,.int .u64 t.set.w0,.int .u64 t.set.w1,.int .u64 t.set.w2,.int .u64 t.set.w3,.slice t.addr t.n t.cap,.int .i64 t.lo,.int .i64 t.hi,.bool t.neg],.slice (some ⟨p0.1,0,none⟩) n n] w1 (zcq w1 n (zdj F n false t.neg)):=fun w1 h=>zoM n p0.1 _ t (by omega) HK.out w1 h
    have HBd:=zqh (yF HB.out)
    have hws:=HBd.out.size
    go_wp2_with fail
    clear c0
    obtain ⟨c0,c1,c2,c3,c4,c5,c6,c7,c8⟩:=At.tr_cells HAt.out
    go_region_with (first
     |(go_at_call 54;(with_reducible refine (hcall _ ?_).mono ?_);exact HTj.out.tin;rintro e w3 ⟨g3,r3,rfl,hg3,hb3⟩;have HB3:=zqh (HBd.out.trans (hb3.mono hws));have HT3:=zqh (hg3.lower hws)))
    all_goals go_wp2_with fail
    all_goals go_ret
    all_goals exact ⟨g3,r3,rfl,by rw[HS.out,hhd.out];exact HT3.out,HB3.out⟩
   ·have HK:=zqh hk
    have HS:Hid (zae l (k+1) t=zdj ((t.parts.map (zae l k)).headD noF) n true t.neg):=zry hk HL.out
    have c0:=(At.tr_cell HAt.out).1
    rw[hk] at c0
    clear hk
    go_wp2_with fail
    refine (zbl n (by omega) _ (by have:=HNW.out;omega) _).mono ?_
    rintro e w2 ⟨g2,r2,rfl,hg2,hb2⟩
    have HW:=zqh HB.out.size
    have HAt:=zqh (HAt.out.step hb2 rfl)
    have HTs:=zqh (HTs.out.next hb2)
    have HB:=zqh (HB.out.trans (hb2.mono HB.out.size))
    have HT2:=zqh (hg2.lower HW.out)
    clear hg2 hb2
    clear c0
    have c0:=(At.tr_cell HAt.out).1
    rw[HK.out] at c0
    go_wp2_with fail
    have h1:t.parts.length=1:=zdZ HFo.out (by rw[HK.out];decide)
    have hlenT:=HTs.out.len
    rw[qS,h1] at hlenT
    have htl1:ts.length=1:=hlenT
    obtain ⟨A6,cap6,hv6⟩:=HTs.out.len_form
    subst hv6
    obtain ⟨gr,capr,hvr,_,_⟩:=HTs.out.form (by omega)
    injection hvr with hA6 _ hcap
    subst hA6
    subst hcap
    have hjn:(0:Int)<(ts.length:Int):=by omega
    have hc:=HTs.out.cell 0 (by omega)
    obtain ⟨F,hF⟩:∃F,F=(t.parts.map (zae l k))[0]'(by rw[qS,h1];omega):=⟨_,rfl⟩
    have hhd:Hid ((t.parts.map (zae l k)).headD noF=F):=zqh (by rw[hF];exact zeQ _ (by rw[qS,h1];omega))
    have HT0:=HTs.out.tab 0 (by omega) (by rw[qS,h1];omega)
    obtain ⟨p0,hp0⟩:∃p0:TG,p0=ts[0]'(by omega):=⟨_,rfl⟩
    rw[<-hF,<-hp0] at HT0
    rw[<-hp0] at hc
    have hTj:=zqh HT0.tin
    have HTj:=zqh HT0.drew
    clear HT0 hF hp0 h1 hlenT htl1 hpn htl
    have hcall:∀w1:World,TIn w1 p0.1 n F->Calls Tryz.prog 54 #[.agg #[.int .i64 t.kind,.int .u64 t.set.w0,.int .u64 t.set.w1,.int .u64 t.set.w2,.int .u64 t.set.w3,.slice t.addr t.n t.cap,.int .i64 t.lo,.int .i64 t.hi,.bool t.neg],.slice (some ⟨p0.1,0,none⟩) n n] w1 (zcq w1 n (zdj F n true t.neg)):=fun w1 h=>zoN n p0.1 _ t (by omega) HK.out w1 h
    have HBd:=zqh (yF HB.out)
    have hws:=HBd.out.size
    go_wp2_with fail
    clear c0
    obtain ⟨c0,c1,c2,c3,c4,c5,c6,c7,c8⟩:=At.tr_cells HAt.out
    go_region_with (first
     |(go_at_call 54;(with_reducible refine (hcall _ ?_).mono ?_);exact HTj.out.tin;rintro e w3 ⟨g3,r3,rfl,hg3,hb3⟩;have HB3:=zqh (HBd.out.trans (hb3.mono hws));have HT3:=zqh (hg3.lower hws)))
    all_goals go_wp2_with fail
    all_goals go_ret
    all_goals exact ⟨g3,r3,rfl,by rw[HS.out,hhd.out];exact HT3.out,HB3.out⟩
   ·have HK:=zqh hk
    have HS:Hid (zae l (k+1) t=zcR l):=zoR hk HL.out
    have c0:=(At.tr_cell HAt.out).1
    rw[hk] at c0
    clear hk
    go_wp2_with fail
    refine (zbl n (by omega) _ (by have:=HNW.out;omega) _).mono ?_
    rintro e w2 ⟨g2,r2,rfl,hg2,hb2⟩
    have HW:=zqh HB.out.size
    have HAt:=zqh (HAt.out.step hb2 rfl)
    have HTs:=zqh (HTs.out.next hb2)
    have HB:=zqh (HB.out.trans (hb2.mono HB.out.size))
    have HT2:=zqh (hg2.lower HW.out)
    clear hg2 hb2
    clear c0
    have c0:=(At.tr_cell HAt.out).1
    rw[HK.out] at c0
    go_wp2_with fail
    clear c0
    have HD:Hid (zau w2 41 4 w.heap.size g2 n r2 (zcr (zcR l) 0)):=zqh (HT2.out.congr (fun i j _ _=>(zet _ i j).symm))
    clear HT2
    go_wp2_with fail
    go_loopw [137] (fun x wr=>∃i:Nat,i<=n/\x=.int .i64 i/\Hid (zau wr 41 4 w.heap.size g2 n r2 (zcr (zcR l) i))/\Hid (Below w.heap.size w wr)) (fun x _=>n-(intOf x).toNat)
    case atStart=>exact ⟨0,qK _,rfl,HD,HB⟩
    case round =>
     clear HD HB
     obtain ⟨i,hi,rfl,HD,HB⟩:=hrel
     by_cases hlt:i<n
     ·have hin:(i:Int)<(n:Int):=by omega
      have hi0:(0:Int)<=(i:Int):=by omega
      have q5:=HD.out.cellTop hlt
      have q6:=HD.out.cellRow hlt hlt
      have q7:=HD.out.freeRow hlt i
      obtain ⟨old,hold⟩:∃v:Bool,zcr (zcR l) i i i=v:=⟨_,rfl⟩
      rw[hold] at q6
      clear hold
      by_cases he:i=0
      ·subst he
       go_wp2_with fail
       go_region
       go_wp2_with fail
       go_roundw
       case rel=>exact ⟨0+1,by omega,by go_num,zqh (zau.drew ((HD.out.put 0 hlt true).congr (fun i' j' _ _=>zbY (fun j hj=>zgy hj) (zrn) i' j'))),zqh (yF (HB.out.setCell (by have:=(HD.out.rlow 0 hlt).1;exact this) _))⟩
       case measure=>simp[intOf];omega
      ·have hne:¬(i:Int)=0:=by omega
       have hne1:decide ((i:Int)=0)=false:=qE hne
       have hne3:(i==0)=false:=beq_eq_false_iff_ne.2 he
       have hne4:decide (i=0)=false:=qE he
       have hne2:((i:Int)==0)=false:=beq_eq_false_iff_ne.2 hne
       obtain ⟨m,hm⟩:∃m:Nat,i=m+1:=⟨i-1,by omega⟩
       have hw1:IntKind.i64.wrap ((i:Int)-1)=(m:Int):=by rw[yY];omega
       have hmn:m<wl:=by have:=HNW.out;omega
       have hml:m<l.length:=by have:=HWl.out;omega
       obtain ⟨b,off,hA,hb,hc⟩:=(HWb.out.below HB.out).2.2.2 (by omega)
       have q1:=hc m hml
       obtain ⟨x,hx⟩:∃x:Nat,l[m]=x:=⟨_,rfl⟩
       rw[hx] at q1
       have HX:Hid ((l[m]?).getD 0=x):=by rw[qI hml,<-hx];exact rfl
       have hm0:(0:Int)<=(m:Int):=by omega
       have hmn':(m:Int)<(wl:Int):=by omega
       have HM:=zqh hm
       clear hx hc hb hm
       subst hA
       by_cases hx10:x=10
       ·subst hx10
        go_wp2_with fail
        go_still_tail 15,(by kernel_rfl)
        change wpList _ _ _ _ _ (World.drew _)
        go_wp2_with fail
        go_roundw
        case rel=>exact ⟨i+1,by omega,by go_num,zqh ((HD.out.drew.put i hlt true).congr (fun i' j' _ _=>zbY (fun j hj=>zgy hj) (zkq HM.out HX.out (rfl)) i' j')),zqh ((yF HB.out).setCell (by have:=(HD.out.rlow i hlt).1;exact this) _)⟩
        case measure=>simp[intOf];omega
       ·have hx10':¬(x:Int)=10:=by omega
        have hx11:((x:Int)==10)=false:=beq_eq_false_iff_ne.2 hx10'
        go_wp2_with fail
        go_still_tail 15,(by kernel_rfl)
        change wpList _ _ _ _ _ (World.drew _)
        go_wp2_with fail
        go_roundw
        case rel=>exact ⟨i+1,by omega,by go_num,zqh ((HD.out.drew.put i hlt false).congr (fun i' j' _ _=>zbY (fun j hj=>zgy hj) (zkq HM.out HX.out ((qE hx10).symm)) i' j')),zqh ((yF HB.out).setCell (by have:=(HD.out.rlow i hlt).1;exact this) _)⟩
        case measure=>simp[intOf];omega
     ·obtain rfl:i=n:=by omega
      go_wp2_with fail
      go_ret
      exact ⟨g2,r2,rfl,by rw[HS.out];exact HD.out.congr (fun i' j' h _=>zhr h),HB.out⟩
   ·have HK:=zqh hk
    have HS:Hid (zae l (k+1) t=zjG l):=zoS hk HL.out
    have c0:=(At.tr_cell HAt.out).1
    rw[hk] at c0
    clear hk
    go_wp2_with fail
    refine (zbl n (by omega) _ (by have:=HNW.out;omega) _).mono ?_
    rintro e w2 ⟨g2,r2,rfl,hg2,hb2⟩
    have HW:=zqh HB.out.size
    have HAt:=zqh (HAt.out.step hb2 rfl)
    have HTs:=zqh (HTs.out.next hb2)
    have HB:=zqh (HB.out.trans (hb2.mono HB.out.size))
    have HT2:=zqh (hg2.lower HW.out)
    clear hg2 hb2
    clear c0
    have c0:=(At.tr_cell HAt.out).1
    rw[HK.out] at c0
    go_wp2_with fail
    clear c0
    have HD:Hid (zau w2 41 4 w.heap.size g2 n r2 (zcr (zjG l) 0)):=zqh (HT2.out.congr (fun i j _ _=>(zet _ i j).symm))
    clear HT2
    go_wp2_with fail
    go_loopw [161] (fun x wr=>∃i:Nat,i<=n/\x=.int .i64 i/\Hid (zau wr 41 4 w.heap.size g2 n r2 (zcr (zjG l) i))/\Hid (Below w.heap.size w wr)) (fun x _=>n-(intOf x).toNat)
    case atStart=>exact ⟨0,qK _,rfl,HD,HB⟩
    case round =>
     clear HD HB
     obtain ⟨i,hi,rfl,HD,HB⟩:=hrel
     by_cases hlt:i<n
     ·have hin:(i:Int)<(n:Int):=by omega
      have hi0:(0:Int)<=(i:Int):=by omega
      have q5:=HD.out.cellTop hlt
      have q6:=HD.out.cellRow hlt hlt
      have q7:=HD.out.freeRow hlt i
      obtain ⟨old,hold⟩:∃v:Bool,zcr (zjG l) i i i=v:=⟨_,rfl⟩
      rw[hold] at q6
      clear hold
      by_cases he:i=wl
      ·have hel:i=l.length:=by rw[he];exact HWl.out
       have HEL:=zqh hel
       clear hel
       subst he
       go_wp2_with fail
       go_region
       go_wp2_with fail
       go_roundw
       case rel=>exact ⟨i+1,by omega,by go_num,zqh (zau.drew ((HD.out.put i hlt true).congr (fun i' j' _ _=>zbY (fun j hj=>zjH hj) (zoP HEL.out) i' j'))),zqh (yF (HB.out.setCell (by have:=(HD.out.rlow i hlt).1;exact this) _))⟩
       case measure=>simp[intOf];omega
      ·have hne:¬(i:Int)=(wl:Int):=by omega
       have hne1:decide ((i:Int)=(wl:Int))=false:=qE hne
       have hne3:(i==wl)=false:=beq_eq_false_iff_ne.2 he
       have hne4:decide (i=wl)=false:=qE he
       have hne2:((i:Int)==(wl:Int))=false:=beq_eq_false_iff_ne.2 hne
       have hmn:i<wl:=by have:=HNW.out;omega
       have hml:i<l.length:=by have:=HWl.out;omega
       obtain ⟨b,off,hA,hb,hc⟩:=(HWb.out.below HB.out).2.2.2 (by omega)
       have q1:=hc i hml
       obtain ⟨x,hx⟩:∃x:Nat,l[i]=x:=⟨_,rfl⟩
       rw[hx] at q1
       have HX:Hid ((l[i]?).getD 0=x):=by rw[qI hml,<-hx];exact rfl
       have hm0:(0:Int)<=(i:Int):=by omega
       have hmn':(i:Int)<(wl:Int):=by omega
       clear hx hc hb
       subst hA
       by_cases hx10:x=10
       ·subst hx10
        go_wp2_with fail
        go_still_tail 16,(by kernel_rfl)
        change wpList _ _ _ _ _ (World.drew _)
        go_wp2_with fail
        go_roundw
        case rel=>exact ⟨i+1,by omega,by go_num,zqh ((HD.out.drew.put i hlt true).congr (fun i' j' _ _=>zbY (fun j hj=>zjH hj) (zqG (by have:=HWl.out;omega) HX.out (rfl)) i' j')),zqh ((yF HB.out).setCell (by have:=(HD.out.rlow i hlt).1;exact this) _)⟩
        case measure=>simp[intOf];omega
       ·have hx10':¬(x:Int)=10:=by omega
        have hx11:((x:Int)==10)=false:=beq_eq_false_iff_ne.2 hx10'
        go_wp2_with fail
        go_still_tail 16,(by kernel_rfl)
        change wpList _ _ _ _ _ (World.drew _)
        go_wp2_with fail
        go_roundw
        case rel=>exact ⟨i+1,by omega,by go_num,zqh ((HD.out.drew.put i hlt false).congr (fun i' j' _ _=>zbY (fun j hj=>zjH hj) (zqG (by have:=HWl.out;omega) HX.out ((qE hx10).symm)) i' j')),zqh ((yF HB.out).setCell (by have:=(HD.out.rlow i hlt).1;exact this) _)⟩
        case measure=>simp[intOf];omega
     ·obtain rfl:i=n:=by omega
      go_wp2_with fail
      go_ret
      exact ⟨g2,r2,rfl,by rw[HS.out];exact HD.out.congr (fun i' j' h _=>zhr h),HB.out⟩
theorem zk9 (l:List Nat):∀k,zmE k l
 | 0=>fun _ _ _ _ h=>h.elim
 | k+1=>fun t A c w h hs hf hw h10=>znY k l (zk9 l k) t A c w h hs hf hw h10 (jB (zck hf)).1
end Go.Proofs.YtdmodhnhldbpnaaGreat
