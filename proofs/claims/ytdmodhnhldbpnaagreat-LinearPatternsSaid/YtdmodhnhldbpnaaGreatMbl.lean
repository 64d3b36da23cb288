/- Joined: LwOr, LwAndM. -/
import Derived.Test.YtdmodhnhldbpnaaGreatMbk
import Derived.Test.YtdmodhnhldbpnaaGreatMbd
import Derived.Test.YtdmodhnhldbpnaaGreatAid
/- or of package linear: what one of a list says. -/
set_option linter.unusedSimpArgs false
set_option linter.unusedVariables false
set_option maxHeartbeats 8000000
set_option maxRecDepth 100000
namespace Go.Proofs.YtdmodhnhldbpnaaGreat
section
open Go.RowKit
def zbP (X:Nat->Prop) (w:World) (v:Value) (l:List Int):Prop:=∀w',OffF X w w'->zak w' v l
theorem zbP.here {X:Nat->Prop} {w:World} {v:Value} {l:List Int} (h:zbP X w v l):zak w v l:=h w (OffF.of (qT _ w))
theorem zbP.step {X X':Nat->Prop} {w w1:World} {v:Value} {l:List Int} (h:zbP X w v l) (ho:OffF X w w1) (hl:∀b,X' b->X b\/w.heap.size<=b):zbP X' w1 v l:=fun w' q=>h w' (ho.off q hl)
theorem zbP.grow {p:LP} {w w1:World} {ns ns1:List Nd} {F F1:Nat->Prop} {many many1:Bool} {v:Value} {l:List Int} (h:zbP (XY p F) w v l) (g:za8 p w ns F many w1 ns1 F1 many1):zbP (XY p F1) w1 v l:=h.step g.off.xy g.xylow
def zlh (p:LP) (w:World) (ns:List Nd) (F:Nat->Prop) (many:Bool) (fn:Nat) (args:Int->Array Value) (l:List Int) (V:List Nat->List Nat->Nat->Nat->Prop) (s:Nat) (val:Int->List Nat->List Nat->Nat->Nat->Bool):Prop :=
 ∀(y':Nat->Prop) (w1:World) (ns1:List Nd) (F1:Nat->Prop) (many1:Bool) (x:Int),x∈l->za8 {p with y:=y'} w ns F many w1 ns1 F1 many1->Calls Tryz.prog fn (args x) w1 (za9 {p with y:=y'} w1 ns1 F1 many1 fun ms f=>Den V s (val x) ms f)
theorem zqr {l:List Int} {i:Nat} (h:i<l.length) (f:Int->Bool):(l.take (i+1)).any f=((l.take i).any f||f l[i]):=by
 rw[kE,qI h,yX]
 simp
theorem zqs {V:List Nat->List Nat->Nat->Nat->Prop} {s:Nat} {val:Int->List Nat->List Nat->Nat->Nat->Bool} {ms:List Nd} {l:List Int} {i:Nat} (h:Den V s (fun a b c d=>(l.take i).any (fun x=>val x a b c d)) ms [[]]):Den V s (fun a b c d=>l.any (fun x=>val x a b c d)) ms [[]]:=fun a b c d hv=>by
 have:=h a b c d hv
 rw[zgE] at this
 rw[zgE]
 obtain ⟨x,hx,hx2⟩:=List.any_eq_true.1 this.symm
 exact (List.any_eq_true.2 ⟨x,qP hx,hx2⟩).symm
def ziu (p:LP) (bx by_ fn:Nat) (fs cp:Array Value) (ar:Int->Array Value):Prop:=(fn=27/\fs=#[.pointer (some ⟨p.gw,0,none⟩)]/\cp=#[]/\ar=fun x=>#[.pointer (some ⟨p.gw,0,none⟩),.int .i64 x])\/(fn=114/\fs=#[.pointer (some ⟨p.gw,0,none⟩)]/\cp=#[]/\ar=fun x=>#[.pointer (some ⟨p.gw,0,none⟩),.int .i64 x])\/(fn=44/\fs=#[.pointer (some ⟨p.gw,0,none⟩)]/\cp=#[]/\ar=fun x=>#[.pointer (some ⟨p.gw,0,none⟩),.int .i64 x])\/(fn=156/\fs=#[]/\cp=#[.pointer (some ⟨bx,0,none⟩),.pointer (some ⟨by_,0,none⟩)]/\ar=fun x=>#[.int .i64 x,.pointer (some ⟨bx,0,none⟩),.pointer (some ⟨by_,0,none⟩)])
theorem zjq {p:LP}:ziu p 0 0 27 #[.pointer (some ⟨p.gw,0,none⟩)] #[] (fun x=>#[.pointer (some ⟨p.gw,0,none⟩),.int .i64 x]):=Or.inl ⟨rfl,rfl,rfl,rfl⟩
theorem zfW {p:LP}:ziu p 0 0 114 #[.pointer (some ⟨p.gw,0,none⟩)] #[] (fun x=>#[.pointer (some ⟨p.gw,0,none⟩),.int .i64 x]):=Or.inr (Or.inl ⟨rfl,rfl,rfl,rfl⟩)
theorem zof {p:LP}:ziu p 0 0 44 #[.pointer (some ⟨p.gw,0,none⟩)] #[] (fun x=>#[.pointer (some ⟨p.gw,0,none⟩),.int .i64 x]):=Or.inr (Or.inr (Or.inl ⟨rfl,rfl,rfl,rfl⟩))
theorem zsR {p:LP} (bx by_:Nat):ziu p bx by_ 156 #[] #[.pointer (some ⟨bx,0,none⟩),.pointer (some ⟨by_,0,none⟩)] (fun x=>#[.int .i64 x,.pointer (some ⟨bx,0,none⟩),.pointer (some ⟨by_,0,none⟩)]):=Or.inr (Or.inr (Or.inr ⟨rfl,rfl,rfl,rfl⟩))
section
variable {p:LP} {w:World} {ns:List Nd} {F:Nat->Prop} {many:Bool}
theorem lOr {bx by_ fn:Nat} {fs cp:Array Value} {ar:Int->Array Value} (hfn:ziu p bx by_ fn fs cp ar) {l:List Int} {v:Value} (h:LW p w ns F many) (hl:zbP (XY p F) w v l) {V:List Nat->List Nat->Nat->Nat->Prop} {s:Nat} {val:Int->List Nat->List Nat->Nat->Nat->Bool}
  (hof:zlh p w ns F many fn ar l V s val) :
  Calls Tryz.prog 94 #[.pointer (some ⟨p.gw,0,none⟩),v,.func (.func fn) fs cp] w (za9 p w ns F many fun ms f=>Den V s (fun a b c d=>l.any (fun x=>val x a b c d)) ms f):=by
 obtain ⟨A,c,rfl,hlc,hc63,_⟩:=hl.here
 have HW:=zqh h
 have HL:=zqh hl
 have HOf:=zqh hof
 have hl63:l.length<=9223372036854775807:=by omega
 clear h hl hof hlc hc63
 obtain ⟨rfl,rfl,rfl,rfl⟩ | ⟨rfl,rfl,rfl,rfl⟩ | ⟨rfl,rfl,rfl,rfl⟩ | ⟨rfl,rfl,rfl,rfl⟩:=hfn
 all_goals
  go_enter Tryz.func94,Tryz.ntmps94
  go_wp2_with fail
  refine (zhd w).mono ?_
  rintro e w1 ⟨A1,c1,rfl,hf1,hb1⟩
  have HG1:=zqh (za8.of HW.out hb1)
  have HK1:=zqh (zaZ.keeps HW.out hf1)
  clear hf1 hb1
  go_wp2_with fail
  go_loopw [7,13] (fun u v wr=>∃(i:Nat) (f:Fm) (ns1:List Nd) (F1:Nat->Prop) (many1:Bool),i<=l.length/\v=.int .i64 i/\Hid (za8 p w ns F many wr ns1 F1 many1)/\Hid (zaJ (XY p F1) wr u f)/\Hid (zbf (Ls ns1) f)/\Hid (many1=false->Den V s (fun a b c d=>(l.take i).any (fun x=>val x a b c d)) ns1 f)) (fun _ v _=>l.length-(intOf v).toNat)
  case atStart=>exact ⟨0,[],ns,F,many,qK _,rfl,HG1,HK1,zqh (zbf.nil _),zqh (fun _ a b c d _=>rfl)⟩
  case round =>
   clear HG1 HK1
   obtain ⟨i,f,ns1,F1,many1,hi,rfl,HG,HK,HI,HD⟩:=hrel
   obtain ⟨A7,c7',hu⟩:=HK.out.at
   subst hu
   by_cases hlt:i<l.length
   ·have h1:(0:Int)<=(i:Int):=by omega
    have h2:(i:Int)<(l.length:Int):=by omega
    obtain ⟨b,off,rfl,hbl,q0⟩:=(HL.out.grow HG.out).here.at i hlt
    obtain ⟨x,hx⟩:∃x,zbi l i=x:=⟨_,rfl⟩
    rw[hx] at q0
    have hxe:l[i]=x:=by rw[<-hx,zay hlt]
    have HX:Hid (l[i]=x):=zqh hxe
    have HXm:Hid (x∈l):=zqh (by rw[<-hxe];exact qG hlt)
    have c7:=HG.out.lw.cells.2.2.2.2.2.2.2
    clear hx hxe hbl
    cases many1
    ·have HT:=zqh (zoe f _ wr HK.out.here)
     by_cases hf:f=[[]]
     ·have hfd:decide (f=[[]])=true:=qD hf
      rw[hfd] at HT
      have HF:=zqh hf
      clear hf hfd
      go_wp2_with fail
      refine HT.out.mono ?_
      rintro e w2 ⟨rfl,hw2⟩
      obtain rfl:wr=w2:=hw2.symm
      go_wp2_with fail
      go_ret
      exact za9.done HG.out HK.out HI.out (fun _=>by have:=HD.out (by trivial);rw[HF.out] at this ⊢;exact zqs this)
     ·have hfd:decide (f=[[]])=false:=qE hf
      rw[hfd] at HT
      clear hf hfd
      go_wp2_with fail
      refine HT.out.mono ?_
      rintro e w2 ⟨rfl,hw2⟩
      obtain rfl:wr=w2:=hw2.symm
      have HC:=zqh (HOf.out p.y wr ns1 F1 false x HXm.out HG.out)
      go_wp2_with fail
      refine HC.out.mono ?_
      rintro e w3 ⟨v3,g,ns3,F3,many3,rfl,hg3,hk3,hi3,hd3⟩
      have HG3:=zqh (HG.out.trans hg3)
      have HG13:=zqh hg3
      have HK3:=zqh (HK.out.grow hg3)
      have HI3:=zqh hi3
      have HD3:=zqh hd3
      have HKg:=zqh hk3
      have HE:=zqh (zkk hg3.lw (HK.out.grow hg3) hk3 (hg3.fm HI.out) hi3)
      obtain ⟨A3,c3,hv3⟩:=hk3.at
      subst hv3
      clear hg3 hk3 hi3 hd3 q0 c7
      go_wp2_with fail
      refine HE.out.mono ?_
      rintro e w4 ⟨v4,g4,ns4,F4,many4,rfl,hg4,hk4,hi4,hd4⟩
      obtain ⟨A4,c4,hv4⟩:=hk4.at
      subst hv4
      have HG4:=zqh hg4
      have HK4:=zqh hk4
      have HI4:=zqh hi4
      have HD4:=zqh hd4
      clear hg4 hk4 hi4 hd4
      go_wp2_with fail
      refine ⟨⟨i+1,g4,ns4,F4,many4,by omega,by go_num,zqh (HG3.out.trans HG4.out),HK4,HI4,zqh (fun hm a b c d hv=>?_)⟩,by simp[intOf];omega⟩
      have hm3:many3=false:=by cases many3 with | false=>rfl | true=>have:=HG4.out.mono rfl;rw[hm] at this;cases this
      show _=(l.take (i+1)).any (fun x=>val x a b c d)
      rw[HD4.out hm,zqr hlt,HX.out]
      have e1:=(HG4.out.den (HG13.out.fm HI.out) (HG13.out.den HI.out (HD.out (by trivial)))) a b c d hv
      have e2:=(HG4.out.den HI3.out (HD3.out hm3)) a b c d hv
      rw[e1,e2]
    ·go_wp2_with fail
     go_ret
     exact za9.done HG.out HK.out HI.out (fun q=>by cases q)
   ·obtain rfl:i=l.length:=by omega
    go_wp2_with fail
    go_ret
    exact za9.done HG.out HK.out HI.out (fun hm=>by have:=HD.out hm;rw[qQ] at this;exact this)
end
end

section
open Go.RowKit
theorem own_off {X:Nat->Prop} {w w':World} {base sz n:Nat} {E:TypeId} {v:Value} {xs:List Value} (h:w.ownsRow base E sz v n xs) (ho:OffF X w w') (hn:∀b,v.ownBlock=some b->¬X b):w'.ownsRow base E sz v n xs:=by
 obtain ⟨h1,h2⟩:=id h
 refine ⟨h1,?_⟩
 rcases h2 with hn' | ⟨g,cap,cur,hv,hbg,hc,rest⟩
 ·exact .inl hn'
 ·refine .inr ⟨g,cap,cur,hv,hbg,?_,rest⟩
  exact (ho.block g (World.ownsRow.lt h g (by rw[hv];rfl)).2 (hn g (by rw[hv];rfl))).trans hc
theorem zft {w w':World} {base sz n:Nat} {E:TypeId} {v:Value} {xs:List Value} {row:Option Nat} (h:w.ownsRow base E sz v n xs) (hg:w.grownBy w' row) (hn:∀b,v.ownBlock=some b->row≠some b):w'.ownsRow base E sz v n xs :=
 own_off (X:=fun b=>row=some b) h ⟨hg.os,hg.tape,hg.output,hg.size,fun b hb q=>hg.block b hb (fun e=>q e.symm)⟩ (fun b e q=>hn b e q)
theorem zsS:(Tryz.prog.info? 29).map (fun i=>(i.zero,i.size,i.bytes))=some (some (.slice none 0 0),1,24):=by kernel_rfl
theorem zsT (w:World) (A:Option Addr) (n c:Nat):Src (w.alloc (.cells #[.slice A n c] 29)) 1 (.slice (some ⟨w.heap.size,0,none⟩) 1 1) 1 [.slice A n c]:=by
 have hA:=At.new w 29 #[.slice A n c]
 refine ⟨_,1,rfl,qL _,by omega,rfl,(fun u hu=>by rw[List.mem_singleton.1 hu];rfl),fun _=>⟨_,0,rfl,hA.lt,fun j u hu=>?_⟩⟩
 match j,hu with
 | 0,hu=>injection hu with hu;subst hu;exact hA.cell 0
 | j+1,hu=>simp at hu
theorem zqt {l:List Int} {i:Nat} (h:i<l.length) (f:Int->Bool):(l.take (i+1)).all f=((l.take i).all f&&f l[i]):=by
 rw[kE,qI h,xT]
 simp
theorem zog {l:List Fm} {i:Nat} (h:i<l.length) (f:Fm->Bool):(l.take (i+1)).all f=((l.take i).all f&&f l[i]):=by
 rw[kE,qI h,xT]
 simp
structure zoC (X:Nat->Prop) (ns:List Nd) (w:World) (base:Nat) (v:Value) (os:List Value) (fs:List Fm):Prop where
 own:w.ownsRow base 29 1 v os.length os
 fl:fs.length=os.length
 keep:∀k (h:k<fs.length) (h':k<os.length),zaJ X w os[k] fs[k]/\zbf (Ls ns) fs[k]
structure zoD (p:LP) (w wr:World) (ns1:List Nd) (F1:Nat->Prop) (u7 u8:Value) (i:Nat) (nums:List Int) (os:List Value) (fs:List Fm):Prop where
 row:zq9 wr w.heap.size u7 nums
 oth:zoC (XY p F1) ns1 wr w.heap.size u8 os fs
 inn:∀n∈nums,zac ns1 n
 len:nums.length<=i*20000
 few:os.length<=i
 x7:∀b,u7.ownBlock=some b->p.y b/\¬XB p F1 b
 x8:∀b,u8.ownBlock=some b->p.y b/\¬XB p F1 b
 ap:∀b,u7.ownBlock=some b->u8.ownBlock≠some b
section
variable {p:LP} {w:World} {ns:List Nd} {F:Nat->Prop} {many:Bool}
theorem zoC.grow {p:LP} {wr w1:World} {ns1 ns2:List Nd} {F1 F2:Nat->Prop} {m1 m2:Bool} {base:Nat} {v:Value} {os:List Value} {fs:List Fm} (h:zoC (XY p F1) ns1 wr base v os fs) (g:za8 p wr ns1 F1 m1 w1 ns2 F2 m2) (hx:∀b,v.ownBlock=some b->¬XB p F1 b):zoC (XY p F2) ns2 w1 base v os fs :=
 ⟨own_off h.own g.off hx,h.fl,fun k a b=>⟨(h.keep k a b).1.grow g,g.fm (h.keep k a b).2⟩⟩
theorem zoD.grow {wr w1:World} {ns1 ns2:List Nd} {F1 F2:Nat->Prop} {m1 m2:Bool} {u7 u8:Value} {i:Nat} {nums:List Int} {os:List Value} {fs:List Fm} (h:zoD p w wr ns1 F1 u7 u8 i nums os fs) (g:za8 p wr ns1 F1 m1 w1 ns2 F2 m2):zoD p w w1 ns2 F2 u7 u8 i nums os fs :=
 ⟨own_off h.row g.off (fun b e=>(h.x7 b e).2),h.oth.grow g (fun b e=>(h.x8 b e).2),fun n hn=>g.isIn (h.inn n hn),h.len,h.few,
  fun b e=>⟨(h.x7 b e).1,fun q=>by rcases g.xlow b q with c | c;exact (h.x7 b e).2 c;(have:=(World.ownsRow.lt h.row b e).2;omega)⟩,
  fun b e=>⟨(h.x8 b e).1,fun q=>by rcases g.xlow b q with c | c;exact (h.x8 b e).2 c;(have:=(World.ownsRow.lt h.oth.own b e).2;omega)⟩,h.ap⟩
def zf6 (nums:List Int) (fs:List Fm) (P:Int->Bool):Bool:=nums.all P&&fs.all (fun f=>fP P f)
theorem zoD.push {wr w1:World} {ns1:List Nd} {F1:Nat->Prop} {m1:Bool} {u7 u8 u7':Value} {i:Nat} {nums q:List Int} {os:List Value} {fs:List Fm} (h:zoD p w wr ns1 F1 u7 u8 i nums os fs) (hw:LW p wr ns1 F1 m1) (hq:zbf (Ls ns1) [q])
  (hr:w1.ownsRow w.heap.size 3 1 u7' (nums.length+q.length) (nums.map (Value.int .i64)++q.map (Value.int .i64))) (hg:wr.grownBy w1 u7.ownBlock) (hat:u7'.ownBlock=u7.ownBlock\/u7'.ownBlock=some wr.heap.size) :
  ∃y':Nat->Prop,(∀b,p.y b->y' b)/\(∀b,y' b->p.y b\/wr.heap.size<=b)/\LW {p with y:=y'} w1 ns1 F1 m1/\OffF (XY p F1) wr w1/\zoD {p with y:=y'} w w1 ns1 F1 u7' u8 (i+1) (nums++q) os fs:=by
 have hsz:wr.heap.size<=w1.heap.size:=hg.size
 have hlw:=hw.turnY hg (fun b e=>h.x7 b e)
 have ho:OffF (XY p F1) wr w1:=⟨hg.os,hg.tape,hg.output,hg.size,fun b hb hn=>hg.block b hb (fun e=>hn (Or.inr (h.x7 b e.symm).1))⟩
 have hrl:∀b,u7'.ownBlock=some b->b<w1.heap.size:=fun b e=>(World.ownsRow.lt hr b e).2
 have hql:q.length<=20000:=by
  have:=hq.part (zjl ns1) (show q∈[q] by simp)
  rw[zf5] at this
  have:=hw.few
  omega
 refine ⟨fun b=>p.y b\/u7'.ownBlock=some b,fun b q=>Or.inl q,fun b q=>?_,?_,ho,?_⟩
 ·rcases q with q | q
  ·exact Or.inl q
  ·rcases hat with e | e
   ·exact Or.inl (h.x7 b (e▸q)).1
   ·rw[e] at q;injection q with q;exact Or.inr (by omega)
 ·have hk:∀v f,zaJ (XY p F1) wr v f->zaJ (XY {p with y:=fun b=>p.y b\/u7'.ownBlock=some b} F1) w1 v f:=fun v f k=>k.step ho (fun b z=>by
   rcases z with z | z | z
   ·exact Or.inl (Or.inl z)
   ·exact Or.inl (Or.inr z)
   ·rcases hat with e | e
    ·exact Or.inl (Or.inr (h.x7 b (e▸z)).1)
    ·rw[e] at z;injection z with z;exact Or.inr (by omega))
  have hblk:∀b,XB p F1 b->w1.heap[b]?=wr.heap[b]?:=fun b z=>hg.block b (hw.low b z) (fun e=>(h.x7 b e.symm).2 z)
  refine ⟨hlw.ar,hlw.box,hw.fo.mono (hblk _ (Or.inr (Or.inr (Or.inl rfl)))) hk,hw.le.mono (hblk _ (Or.inr (Or.inr (Or.inr (Or.inl rfl))))) hk,hlw.nu,hlw.d,hlw.out,hlw.b8,fun b z=>?_⟩
  rcases z with z | z
  ·exact hlw.ylow b z
  ·exact hrl b z
 ·have hx:∀b,u7'.ownBlock=some b->¬XB p F1 b:=fun b e z=>by
   rcases hat with c | c
   ·exact (h.x7 b (c▸e)).2 z
   ·rw[c] at e;injection e with e;have:=hw.low b z;omega
  refine ⟨by unfold zq9;rw[qF,jE];exact hr,⟨zft h.oth.own hg (fun b e z=>h.ap b z e),h.oth.fl,fun k a b=>⟨(h.oth.keep k a b).1.step ho (fun b z=>?_),(h.oth.keep k a b).2⟩⟩,fun n hn=>?_,by rw[qF,Nat.succ_mul];exact Nat.add_le_add h.len hql,Nat.le_succ_of_le h.few,fun b e=>⟨Or.inr e,hx b e⟩,fun b e=>⟨Or.inl (h.x8 b e).1,(h.x8 b e).2⟩,fun b e z=>?_⟩
  ·rcases z with z | z | z
   ·exact Or.inl (Or.inl z)
   ·exact Or.inl (Or.inr z)
   ·rcases hat with e | e
    ·exact Or.inl (Or.inr (h.x7 b (e▸z)).1)
    ·rw[e] at z;injection z with z;exact Or.inr (by omega)
  ·rcases List.mem_append.1 hn with c | c
   ·exact h.inn n c
   ·exact zfs.1 (hq.inn q (by simp) n c)
  ·rcases hat with c | c
   ·exact h.ap b (c▸e) z
   ·rw[c] at e;injection e with e
    have:=(World.ownsRow.lt h.oth.own b z).2
    omega
theorem zoD.pushF {wr w1:World} {ns1:List Nd} {F1:Nat->Prop} {m1:Bool} {u7 u8 u8' v:Value} {i:Nat} {nums:List Int} {os:List Value} {fs:List Fm} {f:Fm} (h:zoD p w wr ns1 F1 u7 u8 i nums os fs) (hw:LW p wr ns1 F1 m1) (hv:zaJ (XY p F1) wr v f) (hf:zbf (Ls ns1) f)
  (hr:w1.ownsRow w.heap.size 29 1 u8' (os.length+1) (os++[v])) (hg:wr.grownBy w1 u8.ownBlock) (hat:u8'.ownBlock=u8.ownBlock\/u8'.ownBlock=some wr.heap.size) :
  ∃y':Nat->Prop,(∀b,p.y b->y' b)/\(∀b,y' b->p.y b\/wr.heap.size<=b)/\LW {p with y:=y'} w1 ns1 F1 m1/\OffF (XY p F1) wr w1/\zoD {p with y:=y'} w w1 ns1 F1 u7 u8' (i+1) nums (os++[v]) (fs++[f]):=by
 have hsz:wr.heap.size<=w1.heap.size:=hg.size
 have hlw:=hw.turnY hg (fun b e=>h.x8 b e)
 have ho:OffF (XY p F1) wr w1:=⟨hg.os,hg.tape,hg.output,hg.size,fun b hb hn=>hg.block b hb (fun e=>hn (Or.inr (h.x8 b e.symm).1))⟩
 have hrl:∀b,u8'.ownBlock=some b->b<w1.heap.size:=fun b e=>(World.ownsRow.lt hr b e).2
 have hk:∀v f,zaJ (XY p F1) wr v f->zaJ (XY {p with y:=fun b=>p.y b\/u8'.ownBlock=some b} F1) w1 v f:=fun v f k=>k.step ho (fun b z=>by
  rcases z with z | z | z
  ·exact Or.inl (Or.inl z)
  ·exact Or.inl (Or.inr z)
  ·rcases hat with e | e
   ·exact Or.inl (Or.inr (h.x8 b (e▸z)).1)
   ·rw[e] at z;injection z with z;exact Or.inr (by omega))
 have hfl:=h.oth.fl
 refine ⟨fun b=>p.y b\/u8'.ownBlock=some b,fun b q=>Or.inl q,fun b q=>?_,?_,ho,?_⟩
 ·rcases q with q | q
  ·exact Or.inl q
  ·rcases hat with e | e
   ·exact Or.inl (h.x8 b (e▸q)).1
   ·rw[e] at q;injection q with q;exact Or.inr (by omega)
 ·have hblk:∀b,XB p F1 b->w1.heap[b]?=wr.heap[b]?:=fun b z=>hg.block b (hw.low b z) (fun e=>(h.x8 b e.symm).2 z)
  refine ⟨hlw.ar,hlw.box,hw.fo.mono (hblk _ (Or.inr (Or.inr (Or.inl rfl)))) hk,hw.le.mono (hblk _ (Or.inr (Or.inr (Or.inr (Or.inl rfl))))) hk,hlw.nu,hlw.d,hlw.out,hlw.b8,fun b z=>?_⟩
  rcases z with z | z
  ·exact hlw.ylow b z
  ·exact hrl b z
 ·have hx:∀b,u8'.ownBlock=some b->¬XB p F1 b:=fun b e z=>by
   rcases hat with c | c
   ·exact (h.x8 b (c▸e)).2 z
   ·rw[c] at e;injection e with e;have:=hw.low b z;omega
  have hl1:nums.length<=(i+1)*20000:=qH h.len (Nat.mul_le_mul_right _ (kU i))
  have hl2:(os++[v]).length<=i+1:=by rw[qF,yE];exact Nat.succ_le_succ h.few
  refine ⟨zft h.row hg (fun b e z=>h.ap b e z),⟨by rw[qF];exact hr,by rw[qF,qF,hfl,yE,yE],fun k a b=>?_⟩,h.inn,hl1,hl2,fun b e=>⟨Or.inl (h.x7 b e).1,(h.x7 b e).2⟩,fun b e=>⟨Or.inr e,hx b e⟩,fun b e z=>?_⟩
  ·by_cases hkl:k<fs.length
   ·have hkl':k<os.length:=by omega
    rw[yP hkl,yP hkl']
    exact ⟨hk _ _ (h.oth.keep k hkl hkl').1,(h.oth.keep k hkl hkl').2⟩
   ·have hke:k=fs.length:=by rw[qF] at a;simp at a;omega
    have e1:(fs++[f])[k]=f:=by simp[hke]
    have e2:(os++[v])[k]=v:=by
     have:k=os.length:=by omega
     simp[this]
    rw[e1,e2]
    exact ⟨hk _ _ hv,hf⟩
  ·rcases hat with c | c
   ·exact h.ap b e (c▸z)
   ·rw[c] at z;injection z with z
    have:=(World.ownsRow.lt h.row b e).2
    omega
end
end
end Go.Proofs.YtdmodhnhldbpnaaGreat
