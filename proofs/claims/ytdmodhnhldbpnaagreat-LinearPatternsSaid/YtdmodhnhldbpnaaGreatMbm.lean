/- Joined: LwAnd, LwOrP. -/
import Derived.Test.YtdmodhnhldbpnaaGreatMbl
import Derived.Test.YtdmodhnhldbpnaaGreatAid
/- and of package linear at the functions that it is handed. -/
set_option linter.unusedSimpArgs false
set_option linter.unusedVariables false
set_option maxHeartbeats 16000000
set_option maxRecDepth 100000
namespace Go.Proofs.YtdmodhnhldbpnaaGreat
section
open Go.RowKit
theorem zoh {w:World} {base:Nat} {v:Value} {l:List Int} (h:zq9 w base v l) (hI:∀x∈l,IsI x) (hl:l.length<=1000000000) :
  Calls Tryz.prog 109 #[v] w fun e w'=>∃A c,e=.returned (.slice A (Lib.compact l).length c)/\zak w' (.slice A (Lib.compact l).length c) (Lib.compact l)/\(∀b off s,A=some ⟨b,off,s⟩->v.ownBlock=some b)/\w.grownBy w' v.ownBlock:=by
 obtain ⟨h1,h2⟩:=id h
 have hcl:=Lib.compact_length_le l
 have hmem:∀x∈Lib.compact l,x∈l:=by
  intro x hx
  unfold Lib.compact Lib.compactUpTo at hx
  obtain ⟨i,hi,rfl⟩:=List.mem_map.1 hx
  have hi':i<l.length:=List.mem_range.1 (List.mem_filter.1 hi).1
  rw[getElem!_pos l.toArray i (by simpa using hi')]
  simp
 rcases h2 with ⟨rfl,hn⟩ | ⟨g,cap,cur,rfl,hbg,hc,r1,r2,r3,r4⟩
 ·obtain rfl:l=[]:=qU hn
  refine (zby none 0 w).mono ?_
  rintro e w' ⟨rfl,rfl⟩
  exact ⟨none,0,rfl,⟨none,0,rfl,qL _,by omega,(fun x hx=>by cases hx),fun h=>absurd h (jM _)⟩,(fun b off s e=>by cases e),⟨rfl,rfl,rfl,qL _,fun _ _ _=>rfl⟩⟩
 ·have hg:g<w.heap.size:=(Array.getElem?_eq_some_iff.1 hc).1
  have hfree:∀j,w.frozen? ⟨g,j,none⟩=false:=fun j=>At.free (t:=3) (cs:=cur) hc j
  have hcell:∀j,j<l.length->w.cell? ⟨g,0+j,none⟩=some (.int .i64 (l.getD j 0)):=fun j hj=>by
   rw[yH,xZ h j (by omega),xC,xJ,qI hj];rfl
  have hL:=zbz g 0 l.length cap l w zqn (by omega) r1 hcell (fun j _=>hfree _)
  rw[qQ] at hL
  refine hL.mono ?_
  rintro e w' ⟨rfl,q,rfl⟩
  refine ⟨_,cap,rfl,⟨_,cap,rfl,by omega,by unfold maxLen at r2;omega,fun x hx=>hI x (hmem x hx),fun h0=>⟨g,0,rfl,?_,fun j hj=>?_⟩⟩,(fun b off s e=>by injection e with e;injection e with e1 _ _;rw[<-e1];rfl),zcM w g 0 q _⟩
  ·have:=(zcM w g 0 q ((Lib.compact l++List.replicate (l.length-(Lib.compact l).length) 0).map (Value.int .i64))).size
   omega
  ·have ht:(w.drewN q).there g 0 ((Lib.compact l++List.replicate (l.length-(Lib.compact l).length) 0).map (Value.int .i64)).length:=by
    intro j hj
    have hj':j<l.length:=by simp at hj;omega
    exact ⟨by rw[show (w.drewN q).cell? ⟨g,0+j,none⟩=w.cell? ⟨g,0+j,none⟩ from rfl,hcell j hj'];rfl,hfree _⟩
   refine World.rangeAt_setCells_same _ g 0 _ ht j _ ?_
   rw[xC,jP hj,qI hj,zay hj];rfl
theorem za8.push {p:LP} {w wr w1:World} {ns ns1:List Nd} {F F1:Nat->Prop} {many m1:Bool} {y1 y':Nat->Prop} (g:za8 {p with y:=y1} w ns F many wr ns1 F1 m1) (hlw:LW {p with y:=y'} w1 ns1 F1 m1) {row:Option Nat} (hg:wr.grownBy w1 row) (hr:∀b,row=some b->w.heap.size<=b):za8 {p with y:=y'} w ns F many w1 ns1 F1 m1 :=
 ⟨g.more,hlw,g.low,g.off.grown hg (fun b e=>Or.inr (hr b e)),g.mono⟩
theorem za8.lessY {p:LP} {w wr:World} {ns ns1:List Nd} {F F1:Nat->Prop} {many m1:Bool} {y1:Nat->Prop} (g:za8 {p with y:=y1} w ns F many wr ns1 F1 m1) (hy:∀b,p.y b->y1 b):za8 p w ns F many wr ns1 F1 m1:=⟨g.more,g.lw.lessY hy,g.low,g.off,g.mono⟩
def za4 (ns:List Nd) (a b:List Nat) (c d:Nat) (n:Int):Bool:=zai a b ns n c d
theorem zoi {ns:List Nd} {nums:List Int} {fs:List Fm} (hn:∀n∈nums,zac ns n) (hf:∀f∈fs,InF ns f) (more:List Nd) (a b:List Nat) (c d:Nat):zf6 nums fs (za4 (ns++more) a b c d)=zf6 nums fs (za4 ns a b c d):=by
 unfold zf6
 congr 1
 ·rw[qZ,jJ,jJ]
  constructor
  ·intro q n hm
   have:=q n hm
   unfold za4 at this ⊢
   rwa [zav a b more (hn n hm)] at this
  ·intro q n hm
   have:=q n hm
   unfold za4 at this ⊢
   rwa [zav a b more (hn n hm)]
 ·rw[qZ,jJ,jJ]
  constructor
  ·intro q f hm
   have:=q f hm
   rwa [show fP (za4 (ns++more) a b c d) f=fP (za4 ns a b c d) f from zlJ (hf f hm) more c d] at this
  ·intro q f hm
   have:=q f hm
   rwa [show fP (za4 (ns++more) a b c d) f=fP (za4 ns a b c d) f from zlJ (hf f hm) more c d]
theorem zoC.inF {X:Nat->Prop} {ns:List Nd} {w:World} {base:Nat} {v:Value} {os:List Value} {fs:List Fm} (h:zoC X ns w base v os fs):∀f∈fs,InF ns f:=fun f hf=>by
 obtain ⟨k,hk,rfl⟩:=List.mem_iff_getElem.1 hf
 exact (h.keep k hk (by rw[<-h.fl];exact hk)).2.inF
def zrd (V:List Nat->List Nat->Nat->Nat->Prop) (s:Nat) (val:Int->List Nat->List Nat->Nat->Nat->Bool) (l:List Int) (ns:List Nd) (nums:List Int) (fs:List Fm):Prop:=∀(a b:List Nat) (c d:Nat),V a b c d->l.all (fun x=>val x a b c d)=zf6 nums fs (za4 ns a b (c+s) d)
section
variable {p:LP} {w:World} {ns:List Nd} {F:Nat->Prop} {many:Bool}
theorem zml {w1:World} {ns1:List Nd} {F1:Nat->Prop} {A:Option Addr} {c:Nat} {q:List Int} (hi:zak w1 (.slice A q.length c) q) (hX:∀b off s,A=some ⟨b,off,s⟩->¬XY p F1 b) (hlow:∀b,XY p F1 b->b<w1.heap.size):zaJ (XY p F1) (w1.alloc (.cells #[.slice A q.length c] 80)) (.slice (some ⟨w1.heap.size,0,none⟩) 1 1) [q]:=fun w' ho=>by
 have hA:=At.new w1 80 #[.slice A q.length c]
 have hA':At w' w1.heap.size 80 #[.slice A q.length c]:=(ho.block _ hA.lt (fun z=>by have:=hlow _ z;omega)).trans hA
 refine ⟨_,1,rfl,qL _,by omega,fun _=>⟨_,0,rfl,hA'.lt,fun j hj=>?_⟩⟩
 have hj:j<1:=hj
 obtain rfl:j=0:=by omega
 refine ⟨_,hA'.cell 0,?_⟩
 show zak w' (.slice A q.length c) q
 obtain ⟨A',c',e,h1,h2,h3,h4⟩:=hi
 injection e with e1 _ e3
 subst e1 e3
 refine ⟨_,_,rfl,h1,h2,h3,fun h0=>?_⟩
 obtain ⟨b,off,rfl,hb,hc⟩:=h4 h0
 have hbk:w'.heap[b]?=w1.heap[b]?:=(ho.block b (by rw[qV];omega) (hX b off none rfl)).trans (yL _ _ b hb)
 refine ⟨b,off,rfl,qM hb (qH (by rw[qV];omega) ho.size),fun k hk=>?_⟩
 have:=hc k hk
 unfold World.cell? at this ⊢
 rw[hbk];exact this
theorem zuB {bx by_ fn:Nat} {fs cp:Array Value} {ar:Int->Array Value} (hfn:ziu p bx by_ fn fs cp ar) {l:List Int} {v:Value} (h:LW p w ns F many) (hl:zbP (XY p F) w v l) (hl2:l.length<=20000) {V:List Nat->List Nat->Nat->Nat->Prop} {s:Nat} {val:Int->List Nat->List Nat->Nat->Nat->Bool}
  (hof:zlh p w ns F many fn ar l V s val) :
  Calls Tryz.prog 76 #[.pointer (some ⟨p.gw,0,none⟩),v,.func (.func fn) fs cp] w (za9 p w ns F many fun ms f=>Den V s (fun a b c d=>l.all (fun x=>val x a b c d)) ms f):=by
 obtain ⟨A,c,rfl,hlc,hc63,_⟩:=hl.here
 have HW:=zqh h
 have HL:=zqh hl
 have HOf:=zqh hof
 have hl63:l.length<=9223372036854775807:=by omega
 obtain ⟨i0,hi0,hi1,hi2,hi3⟩:=yZ zfm
 obtain ⟨j0,hj0,hj1,hj2,hj3⟩:=yZ zsS
 clear h hl hof hlc hc63
 obtain ⟨rfl,rfl,rfl,rfl⟩ | ⟨rfl,rfl,rfl,rfl⟩ | ⟨rfl,rfl,rfl,rfl⟩ | ⟨rfl,rfl,rfl,rfl⟩:=hfn
 all_goals
  go_enter Tryz.func76,Tryz.ntmps76
  go_wp2_with fail
  go_loopw [7,8,17] (fun u7 u8 v wr=>∃(i:Nat) (nums:List Int) (os:List Value) (fs:List Fm) (y1:Nat->Prop) (ns1:List Nd) (F1:Nat->Prop) (many1:Bool),i<=l.length/\v=.int .i64 i/\Hid (∀b,p.y b->y1 b)/\Hid (za8 {p with y:=y1} w ns F many wr ns1 F1 many1)/\Hid (zoD {p with y:=y1} w wr ns1 F1 u7 u8 i nums os fs)/\Hid (many1=false->zrd V s val (l.take i) ns1 nums fs)) (fun _ _ v _=>l.length-(intOf v).toNat)
  case atStart=>exact ⟨0,[],[],[],p.y,ns,F,many,qK _,rfl,zqh (fun b q=>q),zqh (za8.refl HW.out),zqh ⟨kD _ _ _ _,⟨kD _ _ _ _,rfl,fun k a _=>absurd a (jD _)⟩,(fun n hn=>by cases hn),qK _,qK _,(fun b e=>by cases e),(fun b e=>by cases e),(fun b e=>by cases e)⟩,zqh (fun _ a b c d _=>rfl)⟩
  case round =>
   obtain ⟨i,nums,os,fs,y1,ns1,F1,many1,hi,rfl,HY,HG,HI,HS⟩:=hrel
   by_cases hlt:i<l.length
   ·have h1:(0:Int)<=(i:Int):=by omega
    have h2:(i:Int)<(l.length:Int):=by omega
    obtain ⟨b,off,rfl,hbl,q0⟩:=(HL.out wr (OffF.xy (p:=p) HG.out.off)).at i hlt
    obtain ⟨x,hx⟩:∃x,zbi l i=x:=⟨_,rfl⟩
    rw[hx] at q0
    have hxe:l[i]=x:=by rw[<-hx,zay hlt]
    have HX:Hid (l[i]=x):=zqh hxe
    have HXm:Hid (x∈l):=zqh (by rw[<-hxe];exact qG hlt)
    have HC:=zqh (HOf.out y1 wr ns1 F1 many1 x HXm.out HG.out)
    clear hx hxe hbl
    go_wp2_with fail
    refine HC.out.mono ?_
    rintro e w3 ⟨v3,f,ns3,F3,many3,rfl,hg3,hk3,hi3,hd3⟩
    have HG3:=zqh (HG.out.trans hg3)
    have HG13:=zqh hg3
    have HI3:=zqh (HI.out.grow hg3)
    have HFi:=zqh hi3
    have HD3:=zqh hd3
    have HK3:=zqh hk3
    obtain ⟨A3,c3,hv3⟩:=hk3.at
    subst hv3
    have c7:=hg3.lw.cells.2.2.2.2.2.2.2
    have hfw:=hi3.few
    clear hg3 hi3 hd3 hk3 q0 HC
    cases many3
    rotate_left
    ·clear c7
     have c7:w3.cell? ⟨p.gw,7,none⟩=some (.bool true):=HG3.out.lw.cells.2.2.2.2.2.2.2
     go_wp2_with fail
     refine (zhd w3).mono ?_
     rintro e w4 ⟨A4,c4,rfl,hf4,hb4⟩
     have HEnd:=zqh ((HG3.out.lessY HY.out).next hb4)
     have HKe:=zqh (zaZ.keeps (HG3.out.lw.lessY HY.out) hf4)
     clear hf4 hb4
     go_wp2_with fail
     go_ret
     exact za9.done HEnd.out HKe.out (zbf.nil _) (fun q=>by cases q)
    have c7':w3.cell? ⟨p.gw,7,none⟩=some (.bool false):=c7
    clear c7
    have HM1:Hid (many1=false):=zqh (by cases many1 with | false=>rfl | true=>have:=HG13.out.mono rfl;cases this)
    have HSd:Hid (∀a b c d,V a b c d->(l.take (i+1)).all (fun x=>val x a b c d)=(zf6 nums fs (za4 ns3 a b (c+s) d)&&fP (za4 ns3 a b (c+s) d) f)):=zqh (fun a b c d hv=>by
     rw[zqt hlt,HX.out,HS.out HM1.out a b c d hv]
     obtain ⟨m,hm⟩:=HG13.out.more
     congr 1
     ·rw[hm,zoi HI.out.inn HI.out.oth.inF]
     ·exact (HD3.out rfl a b c d hv).symm)
    by_cases hf0:f.length=0
    ·have hf:f=[]:=qU hf0
     subst hf
     have hz:((([]:Fm).length:Int)==0)=true:=rfl
     have hz2:(([]:Fm).length:Int)=0:=rfl
     clear hf0
     go_wp2_with fail
     refine (zhd w3).mono ?_
     rintro e w4 ⟨A4,c4,rfl,hf4,hb4⟩
     have HEnd:=zqh ((HG3.out.lessY HY.out).next hb4)
     have HKe:=zqh (zaZ.keeps (HG3.out.lw.lessY HY.out) hf4)
     clear hf4 hb4
     go_wp2_with fail
     go_ret
     refine za9.done HEnd.out HKe.out (zbf.nil _) (fun _ a b c d hv=>?_)
     have:=HSd.out a b c d hv
     rw[show fP (za4 ns3 a b (c+s) d) []=false from rfl,Bool.and_false] at this
     rw[zgi]
     refine (Bool.eq_false_iff.2 (fun q=>?_)).symm
     have h5:(l.take (i+1)).all (fun x=>val x a b c d)=true:=List.all_eq_true.2 (fun y hy=>List.all_eq_true.1 q y (qP hy))
     rw[this] at h5;cases h5
    have hz:((f.length:Int)==0)=false:=(zab (by omega)).1
    by_cases hf1:f.length=1
    ·obtain ⟨q,hq⟩:∃q,f=[q]:=by
      match f,hf1 with
      | [q],_=>exact ⟨q,rfl⟩
     subst hq
     obtain ⟨b3,off3,A5,c5,hA3,hb3,q3,hp3⟩:=HK3.out.here.at 0 (by simp)
     subst hA3
     rw[Nat.add_zero] at q3
     have q3':w3.cell? ⟨b3,off3,none⟩=some (.slice A5 q.length c5):=q3
     have hp3':zak w3 (.slice A5 q.length c5) q:=hp3
     have e1:([q]:Fm).length=1:=rfl
     have HQl:Hid (q.length<=20000):=zqh (by
      have:=HFi.out.part (zjl ns3) (show q∈[q] by simp)
      rw[zf5] at this
      have:=HG3.out.lw.few
      omega)
     obtain ⟨v6,w6,hr6,o1,o2,o3⟩:=zcG (T:=80) (E:=3) Tryz.underlying80 hi0 hi1 hi2 hi3 rfl (by decide) (by decide) w3 w.heap.size u7 nums.length _ _ q.length _ 80 HI3.out.row HG3.out.size hp3'.src (by have:=HI3.out.len;have:=HQl.out;have:i*20000<=20000*20000:=Nat.mul_le_mul_right _ (by omega);omega)
     obtain ⟨y2,y2a,y2b,hlw2,ho2,ha2⟩:=HI3.out.push HG3.out.lw HFi.out o1 o2 o3
     have HG6:=zqh (HG3.out.push (y':=y2) hlw2 o2 (fun b e=>(World.ownsRow.lt HI3.out.row b e).1))
     have HA6:=zqh ha2
     have HY6:Hid (∀b,p.y b->y2 b):=zqh (fun b z=>y2a b (HY.out b z))
     have HR6:=zqh hr6
     rw[e1] at hz hf0 hfw ⊢
     clear q3 hp3 hp3' hr6 o1 o2 o3 y2a y2b hlw2 ho2 ha2 hf1 hb3
     go_wp2_with (first | (at_builtin;refine Lib.wpList_append_run _ rfl _ _ _ _ rfl _ _ rfl rfl v6 w6 HR6.out ?_) | fail)
     refine ⟨⟨i+1,nums++q,os,fs,y2,ns3,F3,false,by omega,by go_num,HY6,HG6,HA6,zqh (fun _ a b c d hv=>?_)⟩,by simp[intOf];omega⟩
     rw[HSd.out a b c d hv]
     unfold zf6 fP
     rw[xT,xQ,List.any_nil,Bool.or_false]
     cases nums.all (za4 ns3 a b (c+s) d)<;>cases q.all (za4 ns3 a b (c+s) d)<;>cases fs.all (fun f=>List.any f fun p=>p.all (za4 ns3 a b (c+s) d))<;>rfl
    ·have hz1:((f.length:Int)==1)=false:=(zab (by omega)).1
     have hal:Below w3.heap.size w3 (w3.alloc (.cells #[.slice A3 f.length c3] 29)):=zqb
     have hga:=za8.of HG3.out.lw hal
     have HI4:=HI3.out.grow hga
     have HK4:=HK3.out.grow hga
     obtain ⟨v6,w6,hr6,o1,o2,o3⟩:=zcG (T:=147) (E:=29) Tryz.underlying147 hj0 hj1 hj2 hj3 rfl (by decide) (by decide) _ w.heap.size u8 os.length os _ 1 _ 147 HI4.oth.own (qH HG3.out.size hal.size) (zsT w3 A3 f.length c3) (by have:=HI4.few;omega)
     obtain ⟨y2,y2a,y2b,hlw2,ho2,ha2⟩:=HI4.pushF hga.lw HK4 HFi.out o1 o2 o3
     have HG6:=zqh ((HG3.out.trans hga).push (y':=y2) hlw2 o2 (fun b e=>(World.ownsRow.lt HI4.oth.own b e).1))
     have HA6:=zqh ha2
     have HY6:Hid (∀b,p.y b->y2 b):=zqh (fun b z=>y2a b (HY.out b z))
     have HR6:=zqh hr6
     clear hr6 o1 o2 o3 y2a y2b hlw2 ho2 ha2 hf1 hal hga HI4 HK4
     go_wp2_with (first | (at_builtin;refine Lib.wpList_append_run _ rfl _ _ _ _ rfl _ _ rfl rfl v6 w6 HR6.out ?_) | fail)
     refine ⟨⟨i+1,nums,os++[.slice A3 f.length c3],fs++[f],y2,ns3,F3,false,by omega,by go_num,HY6,HG6,HA6,zqh (fun _ a b c d hv=>?_)⟩,by simp[intOf];omega⟩
     rw[HSd.out a b c d hv]
     unfold zf6
     rw[xT,yR,gH,xR,Bool.and_assoc]
   ·obtain rfl:i=l.length:=by omega
    have HSd:Hid (many1=false->zrd V s val l ns1 nums fs):=zqh (fun hm=>by have:=HS.out hm;rw[qQ] at this;exact this)
    have hnl:nums.length<=1000000000:=by have:=HI.out.len;have:l.length*20000<=20000*20000:=Nat.mul_le_mul_right _ hl2;omega
    have HNi:Hid (∀n∈nums,IsI n):=zqh (fun n hn=>by have:=HI.out.inn n hn;have:=HG.out.lw.few;unfold zac at *;unfold IsI;omega)
    go_wp2_with fail
    refine (zuc HI.out.row hnl).mono ?_
    rintro e w2 ⟨rfl,hs,hgs⟩
    have hlw2:=HG.out.lw.turnY hgs (fun b e=>HI.out.x7 b e)
    have ho2:OffF (XY {p with y:=y1} F1) wr w2:=⟨hgs.os,hgs.tape,hgs.output,hgs.size,fun b hb hn=>hgs.block b hb (fun e=>hn (Or.inr (HI.out.x7 b e.symm).1))⟩
    have HG2:=zqh (HG.out.push (y':=y1) hlw2 hgs (fun b e=>(World.ownsRow.lt HI.out.row b e).1))
    have HF2:Hid (zoC (XY {p with y:=y1} F1) ns1 w2 w.heap.size u8 os fs):=zqh ⟨zft HI.out.oth.own hgs (fun b e z=>HI.out.ap b z e),HI.out.oth.fl,fun k a b=>⟨(HI.out.oth.keep k a b).1.step ho2 (fun b z=>Or.inl z),(HI.out.oth.keep k a b).2⟩⟩
    have HIn:=zqh hs
    have hsl:(nums.mergeSort fun x y=>decide (x<=y)).length=nums.length:=List.length_mergeSort _
    have HCo:=zqh (zoh hs (fun x hx=>HNi.out x (List.mem_mergeSort.1 hx)) (by rw[hsl];exact hnl))
    have hcu:=zhK (zn6 nums)
    obtain ⟨q,hq⟩:∃q,Lib.compact (nums.mergeSort fun x y=>decide (x<=y))=q:=⟨_,rfl⟩
    rw[hq] at HCo hcu
    have HCu:Hid (Up q/\∀n,n∈q↔n∈nums):=zqh ⟨hcu.1,fun n=>(hcu.2 n).trans (zip nums n)⟩
    clear hs hgs hlw2 ho2 hsl hcu hq
    go_wp2_with fail
    refine HCo.out.mono ?_
    rintro e w4 ⟨A4,c4,rfl,hi4,hA4,hg4⟩
    have hlw4:=HG2.out.lw.turnY hg4 (fun b e=>HI.out.x7 b e)
    have ho4:OffF (XY {p with y:=y1} F1) w2 w4:=⟨hg4.os,hg4.tape,hg4.output,hg4.size,fun b hb hn=>hg4.block b hb (fun e=>hn (Or.inr (HI.out.x7 b e.symm).1))⟩
    have HG4:=zqh (HG2.out.push (y':=y1) hlw4 hg4 (fun b e=>(World.ownsRow.lt HI.out.row b e).1))
    have hF4:zoC (XY {p with y:=y1} F1) ns1 w4 w.heap.size u8 os fs:=⟨zft HF2.out.own hg4 (fun b e z=>HI.out.ap b z e),HF2.out.fl,fun k a b=>⟨(HF2.out.keep k a b).1.step ho4 (fun b z=>Or.inl z),(HF2.out.keep k a b).2⟩⟩
    have HGp:=zqh (HG4.out.lessY HY.out)
    have hFp:zoC (XY p F1) ns1 w4 w.heap.size u8 os fs:=⟨hF4.own,hF4.fl,fun k a b=>⟨(hF4.keep k a b).1.less (fun b z=>z.imp id (HY.out b)),(hF4.keep k a b).2⟩⟩
    have hba:Below w4.heap.size w4 (w4.alloc (.cells #[.slice A4 q.length c4] 80)):=zqb
    have HG5:=zqh (HGp.out.next hba)
    have HF5:=zqh (hFp.grow (za8.of HGp.out.lw hba) (fun b e=>(HI.out.x8 b e).2))
    have HK5:=zqh (zml (p:=p) (ns1:=ns1) (F1:=F1) hi4 (fun b off s e z=>by
     have hb:=hA4 b off s e
     rcases z with z | z
     ·exact (HI.out.x7 b hb).2 z
     ·have h1:=HW.out.ylow b z
      have h2:=(World.ownsRow.lt HI.out.row b hb).1
      omega) (fun b z=>HGp.out.lw.lowY b z))
    have HI5:Hid (zbf (Ls ns1) [q]):=zqh ⟨zeI HCu.out.1 (fun n hn=>by have:=HI.out.inn n ((HCu.out.2 n).1 hn);exact this.1),(fun r hr n hn=>by rw[List.mem_singleton.1 hr] at hn;exact zfs.2 (HI.out.inn n ((HCu.out.2 n).1 hn))),by simp⟩
    have HX8:Hid (∀b,u8.ownBlock=some b->¬XB p F1 b):=zqh (fun b e=>(HI.out.x8 b e).2)
    have HD5:Hid (many1=false->∀a b c d,V a b c d->fP (za4 ns1 a b (c+s) d) [q]=nums.all (za4 ns1 a b (c+s) d)):=zqh (fun _ a b c d _=>by
     unfold fP
     rw[xQ,List.any_nil,Bool.or_false,qZ,jJ,jJ]
     exact ⟨fun z n hn=>z n ((HCu.out.2 n).2 hn),fun z n hn=>z n ((HCu.out.2 n).1 hn)⟩)
    have HNm:Hid (∀n∈nums,zac ns1 n):=zqh HI.out.inn
    have hos:os.length<=20000:=by have:=HI.out.few;omega
    have HFin:Hid (∀k (h:k<fs.length),zbf (Ls ns1) fs[k]):=zqh (fun k hk=>(HI.out.oth.keep k hk (by rw[<-HI.out.oth.fl];exact hk)).2)
    obtain ⟨A8,c8,hu8⟩:=zbI HI.out.oth.own
    subst hu8
    clear hi4 hA4 hg4 hlw4 ho4 hF4 hFp hba HI HIn HCo
    obtain ⟨w5,hw5⟩:∃w5,w5=w4.alloc (.cells #[.slice A4 q.length c4] 80):=⟨_,rfl⟩
    rw[<-hw5] at HG5 HF5 HK5
    have HW5:=zqh hw5
    clear hw5
    go_wp2_with fail
    rw[<-HW5.out]
    go_loopw [12,56] (fun u v wr=>∃(j:Nat) (f:Fm) (ns2:List Nd) (F2:Nat->Prop) (many2:Bool),j<=os.length/\v=.int .i64 j/\Hid (za8 p w ns F many wr ns2 F2 many2)/\Hid (zaJ (XY p F2) wr u f)/\Hid (zbf (Ls ns2) f)/\Hid (zoC (XY p F2) ns2 wr w.heap.size (.slice A8 os.length c8) os fs)/\Hid (∀b,(Value.slice A8 os.length c8).ownBlock=some b->¬XB p F2 b)/\Hid (∃m,ns2=ns1++m)/\Hid (many2=false->many1=false/\∀a b c d,V a b c d->fP (za4 ns2 a b (c+s) d) f=(nums.all (za4 ns2 a b (c+s) d)&&(fs.take j).all (fun g=>fP (za4 ns2 a b (c+s) d) g)))) (fun _ v _=>os.length-(intOf v).toNat)
    case atStart=>exact ⟨0,[q],ns1,F1,many1,qK _,rfl,HG5,HK5,HI5,HF5,HX8,zqh ⟨[],(jA _).symm⟩,zqh (fun hm=>⟨hm,fun a b c d hv=>by rw[HD5.out hm a b c d hv,List.take_zero,gH,xR]⟩)⟩
    case round =>
     clear HG5 HK5 HI5 HF5 HX8 HD5 HW5
     obtain ⟨j,f,ns2,F2,many2,hj,rfl,HGr,HKr,HIr,HFr,HXr,HMo,HDr⟩:=hrel
     obtain ⟨A7,c7,hu⟩:=HKr.out.at
     subst hu
     by_cases hjl:j<os.length
     ·have h1:(0:Int)<=(j:Int):=by omega
      have h2:(j:Int)<(os.length:Int):=by omega
      have hjf:j<fs.length:=by rw[HFr.out.fl];exact hjl
      obtain ⟨hkj,hij⟩:=HFr.out.keep j hjf hjl
      obtain ⟨g,hA8⟩:∃g,A8=some ⟨g,0,none⟩:=by
       rcases HFr.out.own.2 with ⟨e,_⟩ | ⟨g,cap,cur,e,_⟩
       ·injection e with _ e _;omega
       ·injection e with e _ _;exact ⟨g,e⟩
      subst hA8
      have q0:=xZ HFr.out.own j (by omega)
      rw[qI hjl] at q0
      obtain ⟨B,d,hB⟩:=hkj.at
      obtain ⟨fj,hfj⟩:∃fj,fs[j]=fj:=⟨_,rfl⟩
      rw[hfj] at hkj hij hB
      rw[hB] at q0 hkj
      have HFj:=zqh hfj
      have HE:=zqh (zvg HGr.out.lw HKr.out hkj HIr.out hij)
      clear hB hfj
      go_wp2_with fail
      refine HE.out.mono ?_
      rintro e w6 ⟨v6,g6,ns6,F6,many6,rfl,hg6,hk6,hi6,hd6⟩
      obtain ⟨A6,c6,hv6⟩:=hk6.at
      subst hv6
      have HG6:=zqh hg6
      have HK6:=zqh hk6
      have HI6:=zqh hi6
      have HD6:=zqh hd6
      clear hg6 hk6 hi6 hd6
      go_wp2_with fail
      have hg6:=HG6.out
      have hk6:=HK6.out
      have hi6:=HI6.out
      have hd6:=HD6.out
      refine ⟨⟨j+1,g6,ns6,F6,many6,by omega,by go_num,zqh (HGr.out.trans hg6),zqh hk6,zqh hi6,zqh (HFr.out.grow hg6 HXr.out),zqh (fun b e z=>by
       rcases hg6.xlow b z with z | z
       ·exact HXr.out b e z
       ·have:=(World.ownsRow.lt HFr.out.own b e).2;omega),zqh (by obtain ⟨m,hm⟩:=HMo.out;obtain ⟨m2,hm2⟩:=hg6.more;exact ⟨m++m2,by rw[hm2,hm,jQ]⟩),zqh (fun hm=>?_)⟩,by simp[intOf];omega⟩
      have hm2:many2=false:=by cases many2 with | false=>rfl | true=>have:=hg6.mono rfl;rw[hm] at this;cases this
      obtain ⟨hm1,hd2⟩:=HDr.out hm2
      obtain ⟨m,hmore⟩:=hg6.more
      obtain ⟨m0,hmo⟩:=HMo.out
      refine ⟨hm1,fun a b c d hv=>?_⟩
      rw[hd6 hm,zog hjf,HFj.out]
      have e1:fP (za4 ns6 a b (c+s) d) f=fP (za4 ns2 a b (c+s) d) f:=by rw[hmore];exact zlJ HIr.out.inF m (c+s) d
      have e2:nums.all (za4 ns6 a b (c+s) d)=nums.all (za4 ns2 a b (c+s) d):=by
       rw[hmore]
       exact zgD (fun n hn=>by unfold za4;rw[zav a b m (by rw[hmo];exact (HNm.out n hn).up m0)])
      have e3:(fs.take j).all (fun g=>fP (za4 ns6 a b (c+s) d) g)=(fs.take j).all (fun g=>fP (za4 ns2 a b (c+s) d) g):=by
       rw[hmore,qZ,jJ,jJ]
       have hh:∀g∈fs.take j,fP (za4 (ns2++m) a b (c+s) d) g=fP (za4 ns2 a b (c+s) d) g:=fun g hg=>zlJ (HFr.out.inF g (qP hg)) m (c+s) d
       exact ⟨fun z g hg=>by rw[<-hh g hg];exact z g hg,fun z g hg=>by rw[hh g hg];exact z g hg⟩
      rw[e1,e2,e3,hd2 a b c d hv,Bool.and_assoc]
     ·obtain rfl:j=os.length:=by omega
      go_wp2_with fail
      go_ret
      refine za9.done HGr.out HKr.out HIr.out (fun hm a b c d hv=>?_)
      obtain ⟨hm1,hd2⟩:=HDr.out hm
      obtain ⟨m0,hmo⟩:=HMo.out
      have:=hd2 a b c d hv
      rw[xL (by rw[HFr.out.fl];exact qL _)] at this
      show fP (za4 ns2 a b (c+s) d) f=_
      rw[this]
      show zf6 nums fs (za4 ns2 a b (c+s) d)=l.all (fun x=>val x a b c d)
      rw[HSd.out hm1 a b c d hv,hmo]
      exact zoi HNm.out (fun f hf=>by
       obtain ⟨k,hk,rfl⟩:=List.mem_iff_getElem.1 hf
       exact (HFin.out k hk).inF) m0 a b (c+s) d
end
end

section
open Go.RowKit
theorem zaJ.part {X:Nat->Prop} {w:World} {A:Option Addr} {n c:Nat} {f:Fm} (h:zaJ X w (.slice A n c) f) (j:Nat) (hj:j<f.length):∃b off A2 c2,A=some ⟨b,off,none⟩/\b<w.heap.size/\w.cell? ⟨b,off+j,none⟩=some (.slice A2 (za5 f j).length c2)/\zbP X w (.slice A2 (za5 f j).length c2) (za5 f j):=by
 obtain ⟨b,off,A2,c2,hA,hb,h1,_⟩:=h.here.at j hj
 subst hA
 have hX:¬X b:=fun hx=>by
  have ho:OffF X w (w.setCell ⟨b,off+j,none⟩ (.bool true)):=(OffF.of (qT _ w)).set hx _
  obtain ⟨b',off',A3,c3,e,_,h2,_⟩:=(h _ ho).at j hj
  injection e with e
  injection e with e1 e2 _
  subst e1 e2
  rw[World.cell?_setCell_same w _ _ h1] at h2
  injection h2 with h2
  cases h2
 refine ⟨b,off,A2,c2,rfl,hb,h1,fun w' ho=>?_⟩
 obtain ⟨b',off',A3,c3,e,_,h2,h3⟩:=(h w' ho).at j hj
 injection e with e
 injection e with e1 e2 _
 subst e1 e2
 have hbk:=ho.block b hb hX
 unfold World.cell? at h1 h2
 rw[hbk] at h2
 have h4:=h1.symm.trans h2
 injection h4 with h4
 rw[h4]
 exact h3
theorem za8.transY {p:LP} {w w1 w2:World} {ns ns1 ns2:List Nd} {F F1 F2:Nat->Prop} {many many1 many2:Bool} {y':Nat->Prop} (g:za8 p w ns F many w1 ns1 F1 many1) (g2:za8 {p with y:=y'} w1 ns1 F1 many1 w2 ns2 F2 many2):za8 {p with y:=y'} w ns F many w2 ns2 F2 many2:=by
 obtain ⟨m,rfl⟩:=g.more
 obtain ⟨m2,rfl⟩:=g2.more
 refine ⟨⟨m++m2,by rw[jQ]⟩,g2.lw,fun b q=>?_,OffF.off (F':=XB p F1) g.off g2.off g.xlow,fun q=>g2.mono (g.mono q)⟩
 rcases g2.low b q with c | c
 ·exact g.low b c
 ·exact Or.inr (qH g.size c)
theorem zlh.grow {p:LP} {w w1:World} {ns ns1:List Nd} {F F1:Nat->Prop} {many many1:Bool} {fn:Nat} {args:Int->Array Value} {l:List Int} {V:List Nat->List Nat->Nat->Nat->Prop} {s:Nat} {val:Int->List Nat->List Nat->Nat->Nat->Bool} (h:zlh p w ns F many fn args l V s val) (g:za8 p w ns F many w1 ns1 F1 many1):zlh p w1 ns1 F1 many1 fn args l V s val :=
 fun y' w2 ns2 F2 many2 x hx g2=>h y' w2 ns2 F2 many2 x hx (g.transY g2)
theorem zoj {V:List Nat->List Nat->Nat->Nat->Prop} {s:Nat} {val:List Int->List Nat->List Nat->Nat->Nat->Bool} {ms:List Nd} {l:Fm} {i:Nat} (h:Den V s (fun a b c d=>(l.take i).any (fun x=>val x a b c d)) ms [[]]):Den V s (fun a b c d=>l.any (fun x=>val x a b c d)) ms [[]]:=fun a b c d hv=>by
 have:=h a b c d hv
 rw[zgE] at this
 rw[zgE]
 obtain ⟨x,hx,hx2⟩:=List.any_eq_true.1 this.symm
 exact (List.any_eq_true.2 ⟨x,qP hx,hx2⟩).symm
theorem zok {l:Fm} {i:Nat} (h:i<l.length) (f:List Int->Bool):(l.take (i+1)).any f=((l.take i).any f||f l[i]):=by
 rw[kE,qI h,yX]
 simp
section
variable {p:LP} {w:World} {ns:List Nd} {F:Nat->Prop} {many:Bool}
theorem lPart {bx by_ fn:Nat} {fs cp:Array Value} {ar:Int->Array Value} (hfn:ziu p bx by_ fn fs cp ar) (b3 b5:Nat) {l:List Int} {v:Value} (h:LW p w ns F many) (hl:zbP (XY p F) w v l) (hl2:l.length<=20000) {V:List Nat->List Nat->Nat->Nat->Prop} {s:Nat} {val:Int->List Nat->List Nat->Nat->Nat->Bool}
  (h3:At w b3 63 #[.pointer (some ⟨p.gw,0,none⟩)]) (h5:At w b5 66 #[.func (.func fn) fs cp])
  (hof:zlh p w ns F many fn ar l V s val) :
  Calls Tryz.prog 75 #[v,.pointer (some ⟨b3,0,none⟩),.pointer (some ⟨b5,0,none⟩)] w (za9 p w ns F many fun ms f=>Den V s (fun a b c d=>l.all (fun x=>val x a b c d)) ms f):=by
 have c3:=h3.cell 0
 have c5:=h5.cell 0
 have HC:=zqh (zuB hfn h hl hl2 hof)
 clear h hl hof h3 h5
 obtain ⟨rfl,rfl,rfl,rfl⟩ | ⟨rfl,rfl,rfl,rfl⟩ | ⟨rfl,rfl,rfl,rfl⟩ | ⟨rfl,rfl,rfl,rfl⟩:=hfn
 all_goals
  go_enter Tryz.func75,Tryz.ntmps75
  go_wp2_with fail
  refine HC.out.mono ?_
  rintro e w1 ⟨v1,f1,ns1,F1,many1,rfl,hg1,hk1,hi1,hd1⟩
  have HG:=zqh hg1
  have HK:=zqh hk1
  have HI:=zqh hi1
  have HD:=zqh hd1
  obtain ⟨A1,c1,hv1⟩:=hk1.at
  subst hv1
  clear hg1 hk1 hi1 hd1
  go_wp2_with fail
  go_ret
  exact za9.done HG.out HK.out HI.out HD.out
theorem zvT {bx by_ fn:Nat} {fs cp:Array Value} {ar:Int->Array Value} (hfn:ziu p bx by_ fn fs cp ar) (b3 b5:Nat) {l:Fm} {v:Value} (h:LW p w ns F many) (hl:zaJ (XY p F) w v l) (hI:zbf (Ls ns) l) {V:List Nat->List Nat->Nat->Nat->Prop} {s:Nat} {val:Int->List Nat->List Nat->Nat->Nat->Bool}
  (h3:At w b3 63 #[.pointer (some ⟨p.gw,0,none⟩)]) (h5:At w b5 66 #[.func (.func fn) fs cp]) (n3:¬XB p F b3) (n5:¬XB p F b5)
  (hof:∀q∈l,zlh p w ns F many fn ar q V s val) :
  Calls Tryz.prog 74 #[.pointer (some ⟨p.gw,0,none⟩),v,.func (.func 75) #[] #[.pointer (some ⟨b3,0,none⟩),.pointer (some ⟨b5,0,none⟩)]] w (za9 p w ns F many fun ms f=>Den V s (fun a b c d=>l.any (fun q=>q.all (fun x=>val x a b c d))) ms f):=by
 obtain ⟨A,c,rfl⟩:=hl.at
 have hl63:=hl.here.max
 have HW:=zqh h
 have HL:=zqh hl
 have HLi:Hid (∀q∈l,q.length<=20000):=zqh (fun q hq=>by
  have:=hI.part (zjl ns) hq
  rw[zf5] at this
  have:=h.few
  omega)
 have HPart:Hid (∀(wr:World) (ns1:List Nd) (F1:Nat->Prop) (many1:Bool) (u:Value) (q:List Int),za8 p w ns F many wr ns1 F1 many1->q∈l->zbP (XY p F1) wr u q->Calls Tryz.prog 75 #[u,.pointer (some ⟨b3,0,none⟩),.pointer (some ⟨b5,0,none⟩)] wr (za9 p wr ns1 F1 many1 fun ms f=>Den V s (fun a b c d=>q.all (fun x=>val x a b c d)) ms f)):=zqh (fun wr ns1 F1 many1 u q g hq hk =>
  lPart hfn b3 b5 g.lw hk (HLi.out q hq) ((g.off.block b3 h3.lt n3).trans h3) ((g.off.block b5 h5.lt n5).trans h5) ((hof q hq).grow g))
 clear h hl hof hI h3 h5 n3 n5
 obtain ⟨rfl,rfl,rfl,rfl⟩ | ⟨rfl,rfl,rfl,rfl⟩ | ⟨rfl,rfl,rfl,rfl⟩ | ⟨rfl,rfl,rfl,rfl⟩:=hfn
 all_goals
  go_enter Tryz.func74,Tryz.ntmps74
  go_wp2_with fail
  refine (zhd w).mono ?_
  rintro e w1 ⟨A1,c1,rfl,hf1,hb1⟩
  have HG1:=zqh (za8.of HW.out hb1)
  have HK1:=zqh (zaZ.keeps HW.out hf1)
  clear hf1 hb1
  go_wp2_with fail
  go_loopw [7,13] (fun u v wr=>∃(i:Nat) (f:Fm) (ns1:List Nd) (F1:Nat->Prop) (many1:Bool),i<=l.length/\v=.int .i64 i/\Hid (za8 p w ns F many wr ns1 F1 many1)/\Hid (zaJ (XY p F1) wr u f)/\Hid (zbf (Ls ns1) f)/\Hid (many1=false->Den V s (fun a b c d=>(l.take i).any (fun q=>q.all (fun x=>val x a b c d))) ns1 f)) (fun _ v _=>l.length-(intOf v).toNat)
  case atStart=>exact ⟨0,[],ns,F,many,qK _,rfl,HG1,HK1,zqh (zbf.nil _),zqh (fun _ a b c d _=>rfl)⟩
  case round =>
   clear HG1 HK1
   obtain ⟨i,f,ns1,F1,many1,hi,rfl,HG,HK,HI,HD⟩:=hrel
   obtain ⟨A7,c7',hu⟩:=HK.out.at
   subst hu
   by_cases hlt:i<l.length
   ·have h1:(0:Int)<=(i:Int):=by omega
    have h2:(i:Int)<(l.length:Int):=by omega
    obtain ⟨b,off,A2,c2,rfl,hbl,q0,hkp⟩:=(HL.out.grow HG.out).part i hlt
    obtain ⟨x,hx⟩:∃x,za5 l i=x:=⟨_,rfl⟩
    rw[hx] at q0 hkp
    have hxe:l[i]=x:=by rw[<-hx,zaz hlt]
    have HX:Hid (l[i]=x):=zqh hxe
    have HXm:Hid (x∈l):=zqh (by rw[<-hxe];exact qG hlt)
    have HKp:=zqh hkp
    have c7:=HG.out.lw.cells.2.2.2.2.2.2.2
    clear hx hxe hbl hkp
    cases many1
    ·have HT:=zqh (zoe f _ wr HK.out.here)
     by_cases hf:f=[[]]
     ·have hfd:decide (f=[[]])=true:=qD hf
      rw[hfd] at HT
      have HF:=zqh hf
      clear hf hfd
      go_wp2_with fail
      refine HT.out.mono ?_
      rintro e w2 ⟨rfl,hw2⟩
      obtain rfl:wr=w2:=hw2.symm
      go_wp2_with fail
      go_ret
      exact za9.done HG.out HK.out HI.out (fun _=>by have:=HD.out (by trivial);rw[HF.out] at this ⊢;exact zoj (val:=fun q a b c d=>q.all (fun x=>val x a b c d)) this)
     ·have hfd:decide (f=[[]])=false:=qE hf
      rw[hfd] at HT
      clear hf hfd
      go_wp2_with fail
      refine HT.out.mono ?_
      rintro e w2 ⟨rfl,hw2⟩
      obtain rfl:wr=w2:=hw2.symm
      have HC:=zqh (HPart.out wr ns1 F1 false _ x HG.out HXm.out HKp.out)
      go_wp2_with fail
      refine HC.out.mono ?_
      rintro e w3 ⟨v3,g,ns3,F3,many3,rfl,hg3,hk3,hi3,hd3⟩
      have HG3:=zqh (HG.out.trans hg3)
      have HG13:=zqh hg3
      have HK3:=zqh (HK.out.grow hg3)
      have HI3:=zqh hi3
      have HD3:=zqh hd3
      have HKg:=zqh hk3
      have HE:=zqh (zkk hg3.lw (HK.out.grow hg3) hk3 (hg3.fm HI.out) hi3)
      obtain ⟨A3,c3,hv3⟩:=hk3.at
      subst hv3
      clear hg3 hk3 hi3 hd3 q0 c7
      go_wp2_with fail
      refine HE.out.mono ?_
      rintro e w4 ⟨v4,g4,ns4,F4,many4,rfl,hg4,hk4,hi4,hd4⟩
      obtain ⟨A4,c4,hv4⟩:=hk4.at
      subst hv4
      have HG4:=zqh hg4
      have HK4:=zqh hk4
      have HI4:=zqh hi4
      have HD4:=zqh hd4
      clear hg4 hk4 hi4 hd4
      go_wp2_with fail
      refine ⟨⟨i+1,g4,ns4,F4,many4,by omega,by go_num,zqh (HG3.out.trans HG4.out),HK4,HI4,zqh (fun hm a b c d hv=>?_)⟩,by simp[intOf];omega⟩
      have hm3:many3=false:=by cases many3 with | false=>rfl | true=>have:=HG4.out.mono rfl;rw[hm] at this;cases this
      show _=(l.take (i+1)).any (fun q=>q.all (fun x=>val x a b c d))
      rw[HD4.out hm,zok hlt,HX.out]
      have e1:=(HG4.out.den (HG13.out.fm HI.out) (HG13.out.den HI.out (HD.out (by trivial)))) a b c d hv
      have e2:=(HG4.out.den HI3.out (HD3.out hm3)) a b c d hv
      rw[e1,e2]
    ·go_wp2_with fail
     go_ret
     exact za9.done HG.out HK.out HI.out (fun q=>by cases q)
   ·obtain rfl:i=l.length:=by omega
    go_wp2_with fail
    go_ret
    exact za9.done HG.out HK.out HI.out (fun hm=>by have:=HD.out hm;rw[qQ] at this;exact this)
theorem zsU {bx by_ fn:Nat} {fs cp:Array Value} {ar:Int->Array Value} (hfn:ziu p bx by_ fn fs cp ar) {l:Fm} {v:Value} (h:LW p w ns F many) (hl:zaJ (XY p F) w v l) (hI:zbf (Ls ns) l) {V:List Nat->List Nat->Nat->Nat->Prop} {s:Nat} {val:Int->List Nat->List Nat->Nat->Nat->Bool}
  (hof:∀q∈l,zlh p w ns F many fn ar q V s val) :
  Calls Tryz.prog 43 #[.pointer (some ⟨p.gw,0,none⟩),v,.func (.func fn) fs cp] w (za9 p w ns F many fun ms f=>Den V s (fun a b c d=>l.any (fun q=>q.all (fun x=>val x a b c d))) ms f):=by
 obtain ⟨A,c,rfl⟩:=hl.at
 obtain ⟨w2,hw2⟩:∃w2,w2=(w.alloc (.cells #[.pointer (some ⟨p.gw,0,none⟩)] 63)).alloc (.cells #[.func (.func fn) fs cp] 66):=⟨_,rfl⟩
 have hb:Below w.heap.size w w2:=by rw[hw2];exact (zqb).alloc (by simp) _
 have HG:=zqh (za8.of h hb)
 have hA3:At w2 w.heap.size 63 #[.pointer (some ⟨p.gw,0,none⟩)]:=by rw[hw2];exact (yL _ _ _ (by simp)).trans (At.new w _ _)
 have hA5:At w2 (w.heap.size+1) 66 #[.func (.func fn) fs cp]:=by rw[hw2];have:=At.new (w.alloc (.cells #[.pointer (some ⟨p.gw,0,none⟩)] 63)) 66 #[.func (.func fn) fs cp];rwa [qV] at this
 have HC:=zqh (zvT hfn w.heap.size (w.heap.size+1) HG.out.lw (hl.grow HG.out) hI hA3 hA5 (fun q=>by have:=h.low _ q;omega) (fun q=>by have:=h.low _ q;omega) (fun q hq=>(hof q hq).grow HG.out))
 rw[hw2] at HC
 have HW2:=zqh hw2
 clear h hl hI hof hb hA3 hA5 hw2
 obtain ⟨rfl,rfl,rfl,rfl⟩ | ⟨rfl,rfl,rfl,rfl⟩ | ⟨rfl,rfl,rfl,rfl⟩ | ⟨rfl,rfl,rfl,rfl⟩:=hfn
 all_goals
  go_enter Tryz.func43,Tryz.ntmps43
  go_wp2_with fail
  refine HC.out.mono ?_
  rintro e w1 ⟨v1,f1,ns1,F1,many1,rfl,hg1,hk1,hi1,hd1⟩
  rw[<-HW2.out] at hg1
  have HG1:=zqh (HG.out.trans hg1)
  have HK:=zqh hk1
  have HI:=zqh hi1
  have HD:=zqh hd1
  obtain ⟨A1,c1,hv1⟩:=hk1.at
  subst hv1
  clear hg1 hk1 hi1 hd1 HG
  go_wp2_with fail
  go_ret
  exact za9.done HG1.out HK.out HI.out HD.out
end
end
end Go.Proofs.YtdmodhnhldbpnaaGreat
