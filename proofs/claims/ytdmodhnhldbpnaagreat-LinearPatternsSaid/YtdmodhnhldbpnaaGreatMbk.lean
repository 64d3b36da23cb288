/- Joined: FgDual, LwEasy. -/
import Derived.Test.YtdmodhnhldbpnaaGreatMbi
import Derived.Test.YtdmodhnhldbpnaaGreatMbh
import Derived.Test.YtdmodhnhldbpnaaGreatMbj
import Derived.Test.YtdmodhnhldbpnaaGreatAid
/- package formula: Dual, of any formed formula. -/
set_option linter.unusedSimpArgs false
set_option linter.unusedVariables false
set_option maxHeartbeats 8000000
set_option maxRecDepth 100000
namespace Go.Proofs.YtdmodhnhldbpnaaGreat
section
open Go.RowKit
theorem zgr {f:Fm} (h:∀p∈f,p.length=1):f.flatten.length=f.length:=by
 induction f with
 | nil=>rfl
 | cons p f ih=>rw[List.flatten_cons,qF,ih (fun q hq=>h q (qX _ hq)),h p (by simp),jX];omega
theorem zvf {w:World} {A:Option Addr} {n c:Nat} {f:Fm} (L:List Int) (hL:Up L) (h9:L.length<=20000) (hf:zcF w (.slice A n c) f) (hsf:zbf L f) :
  Calls Tryz.prog 155 #[.slice A n c] w (zsK w L fun on=>zcE f on):=by
 have HF:=zqh hf
 have HSf:=zqh hsf
 have HL:=zqh hL
 have H9:=zqh h9
 have hm:=hf.max
 have hcc:f.length<=c/\c<=9223372036854775807:=by
  obtain ⟨_,_,e,r1,r2,_⟩:=hf
  injection e with _ _ e3
  subst e3
  exact ⟨r1,r2⟩
 obtain ⟨hc1,hc2⟩:=hcc
 have hpf:∀p∈f,p.length<=100000:=fun p hp=>by have:=hsf.part hL hp;omega
 have h1:=zfV hf (by have:=hsf.few;omega) hpf
 obtain rfl:=hf.len
 rw[hsf.fm] at h1
 have H1:=zqh h1
 have HFm:=zqh hsf.fmd
 have hfw:=hsf.few
 clear hf hsf hL h9 hpf h1
 go_enter Tryz.func155,Tryz.ntmps155
 go_wp2_with fail
 refine H1.out.mono ?_
 rintro e w1 ⟨rfl,hb1⟩
 have HB1:=zqh hb1
 clear hb1
 go_wp2_with fail
 refine (zsN f (fun l=>!decide (l.length=1)) A _ c w1 (HF.out.next HB1.out) (fun w' hb l A2 n2 c2 hl hm=>zul l A2 n2 c2 w' hl)).mono ?_
 rintro e w2 ⟨r,rfl,hr,hb2⟩
 have HB2:=zqh (HB1.out.trans (hb2.mono HB1.out.size))
 clear hb2
 rcases hr with ⟨rfl,hall⟩ | ⟨k,hk,rfl,_,hall⟩
 ·have zk0:(-1:Int)<0:=by decide
  cases A with
  | none =>
   have hK:f.length<=f.length:=qL _
   have HOnes:Hid (∀p∈f.take f.length,p.length=1):=zqh (fun p hp=>by have:=hall p (qP hp);simpa using this)
   clear hall
   have zk1:(f.length:Int)<=(f.length:Int):=by omega
   have zk2:(f.length:Int)<=(c:Int):=by omega
   have zk3:(0:Int)<=(f.length:Int):=by omega
   have hft:=(HF.out.next HB2.out).take f.length hK
   have hfs:(f.take f.length).flatten.length<=100000:=by
    have:=zgr HOnes.out
    rw[jR] at this
    omega
   have hC:=zfn _ none f.length c w2 hft.srcs (by rw[zes];omega)
   rw[zes,zji] at hC
   have HC:=zqh hC
   have HUp:=zqh (zis (kG (List.take_sublist f.length f) HFm.out.sorted) HOnes.out)
   have HN0:Hid (∀x∈(f.take f.length).flatten,0<=x/\x<=9223372036854775807):=zqh (fun x hx=>by
    obtain ⟨p,hp,hx⟩:=List.mem_flatten.1 hx
    have hpf:=qP hp
    obtain ⟨j,hj,rfl⟩:=List.mem_iff_getElem.1 hpf
    obtain ⟨_,_,_,_,_,_,_,hi⟩:=HF.out.at j hj
    obtain ⟨_,_,_,_,_,h4,_⟩:=hi
    rw[zaz hj] at h4
    exact ⟨(HFm.out.up _ hpf).2 x hx,(h4 x hx).2⟩)
   have HHold:Hid (∀on,zap [(f.take f.length).flatten] on=zcE (f.take f.length) on):=zqh (fun on=>zee HOnes.out on)
   have HFsl:=zqh hfs
   clear hC hft hfs
   go_wp2_with fail
   try go_wp2_with fail
   refine HC.out.mono ?_
   rintro e w3 ⟨v3,rfl,o1,o2⟩
   have HB3:=zqh (HB2.out.trans (o2.mono HB2.out.size))
   obtain ⟨F,hF⟩:∃F,(f.take f.length).flatten=F:=⟨_,rfl⟩
   rw[hF] at o1 HUp HN0 HHold HFsl
   obtain ⟨A3,c3,rfl,i3,_⟩:=zfr o1 (fun x hx=>by have:=HN0.out x hx;unfold IsI;omega)
   have I3:=zqh i3
   have hFi:Hid (∀x∈F,x∈L):=zqh (fun x hx=>by
    rw[<-hF] at hx
    obtain ⟨p,hp,hx⟩:=List.mem_flatten.1 hx
    exact HSf.out.inn p (qP hp) x hx)
   clear o1 o2 i3 hF
   go_wp2_with fail
   refine (zfP F A3 _ c3 w3 I3.out (fun x hx=>(HN0.out x hx).1)).mono ?_
   rintro e w4 ⟨m,rfl,hmk,hb4⟩
   have HM:=zqh hmk
   have HB4:=zqh (HB3.out.trans (hb4.mono HB3.out.size))
   have hpt:zbB w4 (fun _=>False) ⟨.slice A3 F.length c3,m,F⟩:=zde (I3.out.next hb4) (fun _ _ _ _ h=>h) HUp.out HN0.out HM.out
   have hps:=zit hpt
   have hb5:Below w4.heap.size w4 (w4.alloc (.cells #[.slice A3 F.length c3,.int .u64 m] 171)):=zqb
   have HPs:=zqh hps
   have HB5:=zqh (HB4.out.trans (hb5.mono HB4.out.size))
   clear hmk hb4 hpt hps hb5
   go_wp2_with fail
   generalize w4.alloc (.cells #[.slice A3 F.length c3,.int .u64 m] 171)=W5 at HPs HB5 ⊢
   generalize w4.heap.size=s4 at HPs ⊢
   go_loopw [5,6,28] (fun s5 s6 v wr=>s5=.slice (some ⟨s4,0,none⟩) 1 1/\s6=.bool true/\v=.int .i64 0/\W5=wr) (fun _ _ _ _=>0)
   case atStart=>exact ⟨rfl,rfl,rfl,rfl⟩
   case round =>
    obtain ⟨rfl,rfl,rfl,rfl⟩:=hrel
    obtain ⟨ls,s1,s2,s3,hll,s5⟩:∃ls:List Pt,zdC W5 (.slice (some ⟨s4,0,none⟩) 1 1) ls/\Fmd (zbJ ls)/\InL L ls/\ls.length<=200/\∀on,zap (zbJ ls) on=zcE f on :=
     ⟨_,HPs.out,zeI HUp.out (fun x hx=>(HN0.out x hx).1),(fun x hx n hn=>by rw[List.mem_singleton.1 hx] at hn;exact hFi.out n hn),(by simp),fun on=>by have:=HHold.out on;rw[qQ] at this;exact this⟩
    have hans:=zfU ls (some ⟨s4,0,none⟩) 1 1 W5 s1 (by omega) (fun x hx=>by have:=zg9 HL.out (s1.2 x hx).2.1.1 (s3 x hx);have:=H9.out;omega)
    have hEq:zbf L (zbJ ls)/\∀on,zap (zbJ ls) on=zcE f on:=⟨⟨s2,fun p hp n hn=>(by
     obtain ⟨x,hx,rfl⟩:=List.mem_map.1 hp
     exact s3 x hx n hn),by simp[zbJ];exact hll⟩,s5⟩
    have HAns:=zqh hans
    have HEq:=zqh hEq
    clear hans hEq s1 s2 s3 s5 hll
    go_wp2_with fail
    refine HAns.out.mono ?_
    rintro e w8 ⟨b8,rfl,k1,k2⟩
    have K1:=zqh (k1.low (base':=w.heap.size) HB5.out.size)
    have HB8:=zqh (HB5.out.trans (k2.mono HB5.out.size))
    clear k1 k2
    go_wp2_with fail
    have hlf:(zbJ ls).length=ls.length:=by simp[zbJ]
    refine yD (v:=.tuple #[.slice (some ⟨b8,0,none⟩) ls.length ls.length,.int .i64 0]) (by simp[results,Tryz.results155,go_sem]) rfl ⟨some ⟨b8,0,none⟩,ls.length,zbJ ls,0,by rw[hlf],by rw[hlf];exact K1.out,HEq.out.1,Or.inl ⟨rfl,HEq.out.2⟩,HB8.out⟩
  | some aa =>
   obtain ⟨ba,oa,sa⟩:=aa
   by_cases hce:c=f.length
   ·subst hce
    have hK:f.length<=f.length:=qL _
    have HOnes:Hid (∀p∈f.take f.length,p.length=1):=zqh (fun p hp=>by have:=hall p (qP hp);simpa using this)
    clear hall
    have zk1:(f.length:Int)<=(f.length:Int):=by omega
    have zk2:(f.length:Int)<=(f.length:Int):=by omega
    have zk3:(0:Int)<=(f.length:Int):=by omega
    have hft:=(HF.out.next HB2.out).take f.length hK
    have hfs:(f.take f.length).flatten.length<=100000:=by
     have:=zgr HOnes.out
     rw[jR] at this
     omega
    have hC:=zfn _ (some ⟨ba,oa,sa⟩) f.length f.length w2 hft.srcs (by rw[zes];omega)
    rw[zes,zji] at hC
    have HC:=zqh hC
    have HUp:=zqh (zis (kG (List.take_sublist f.length f) HFm.out.sorted) HOnes.out)
    have HN0:Hid (∀x∈(f.take f.length).flatten,0<=x/\x<=9223372036854775807):=zqh (fun x hx=>by
     obtain ⟨p,hp,hx⟩:=List.mem_flatten.1 hx
     have hpf:=qP hp
     obtain ⟨j,hj,rfl⟩:=List.mem_iff_getElem.1 hpf
     obtain ⟨_,_,_,_,_,_,_,hi⟩:=HF.out.at j hj
     obtain ⟨_,_,_,_,_,h4,_⟩:=hi
     rw[zaz hj] at h4
     exact ⟨(HFm.out.up _ hpf).2 x hx,(h4 x hx).2⟩)
    have HHold:Hid (∀on,zap [(f.take f.length).flatten] on=zcE (f.take f.length) on):=zqh (fun on=>zee HOnes.out on)
    have HFsl:=zqh hfs
    clear hC hft hfs
    go_wp2_with fail
    try go_wp2_with fail
    refine HC.out.mono ?_
    rintro e w3 ⟨v3,rfl,o1,o2⟩
    have HB3:=zqh (HB2.out.trans (o2.mono HB2.out.size))
    obtain ⟨F,hF⟩:∃F,(f.take f.length).flatten=F:=⟨_,rfl⟩
    rw[hF] at o1 HUp HN0 HHold HFsl
    obtain ⟨A3,c3,rfl,i3,_⟩:=zfr o1 (fun x hx=>by have:=HN0.out x hx;unfold IsI;omega)
    have I3:=zqh i3
    have hFi:Hid (∀x∈F,x∈L):=zqh (fun x hx=>by
     rw[<-hF] at hx
     obtain ⟨p,hp,hx⟩:=List.mem_flatten.1 hx
     exact HSf.out.inn p (qP hp) x hx)
    clear o1 o2 i3 hF
    go_wp2_with fail
    refine (zfP F A3 _ c3 w3 I3.out (fun x hx=>(HN0.out x hx).1)).mono ?_
    rintro e w4 ⟨m,rfl,hmk,hb4⟩
    have HM:=zqh hmk
    have HB4:=zqh (HB3.out.trans (hb4.mono HB3.out.size))
    have hpt:zbB w4 (fun _=>False) ⟨.slice A3 F.length c3,m,F⟩:=zde (I3.out.next hb4) (fun _ _ _ _ h=>h) HUp.out HN0.out HM.out
    have hps:=zit hpt
    have hb5:Below w4.heap.size w4 (w4.alloc (.cells #[.slice A3 F.length c3,.int .u64 m] 171)):=zqb
    have HPs:=zqh hps
    have HB5:=zqh (HB4.out.trans (hb5.mono HB4.out.size))
    clear hmk hb4 hpt hps hb5
    go_wp2_with fail
    generalize w4.alloc (.cells #[.slice A3 F.length c3,.int .u64 m] 171)=W5 at HPs HB5 ⊢
    generalize w4.heap.size=s4 at HPs ⊢
    go_loopw [5,6,28] (fun s5 s6 v wr=>s5=.slice (some ⟨s4,0,none⟩) 1 1/\s6=.bool true/\v=.int .i64 0/\W5=wr) (fun _ _ _ _=>0)
    case atStart=>exact ⟨rfl,rfl,rfl,rfl⟩
    case round =>
     obtain ⟨rfl,rfl,rfl,rfl⟩:=hrel
     obtain ⟨ls,s1,s2,s3,hll,s5⟩:∃ls:List Pt,zdC W5 (.slice (some ⟨s4,0,none⟩) 1 1) ls/\Fmd (zbJ ls)/\InL L ls/\ls.length<=200/\∀on,zap (zbJ ls) on=zcE f on :=
      ⟨_,HPs.out,zeI HUp.out (fun x hx=>(HN0.out x hx).1),(fun x hx n hn=>by rw[List.mem_singleton.1 hx] at hn;exact hFi.out n hn),(by simp),fun on=>by have:=HHold.out on;rw[qQ] at this;exact this⟩
     have hans:=zfU ls (some ⟨s4,0,none⟩) 1 1 W5 s1 (by omega) (fun x hx=>by have:=zg9 HL.out (s1.2 x hx).2.1.1 (s3 x hx);have:=H9.out;omega)
     have hEq:zbf L (zbJ ls)/\∀on,zap (zbJ ls) on=zcE f on:=⟨⟨s2,fun p hp n hn=>(by
      obtain ⟨x,hx,rfl⟩:=List.mem_map.1 hp
      exact s3 x hx n hn),by simp[zbJ];exact hll⟩,s5⟩
     have HAns:=zqh hans
     have HEq:=zqh hEq
     clear hans hEq s1 s2 s3 s5 hll
     go_wp2_with fail
     refine HAns.out.mono ?_
     rintro e w8 ⟨b8,rfl,k1,k2⟩
     have K1:=zqh (k1.low (base':=w.heap.size) HB5.out.size)
     have HB8:=zqh (HB5.out.trans (k2.mono HB5.out.size))
     clear k1 k2
     go_wp2_with fail
     have hlf:(zbJ ls).length=ls.length:=by simp[zbJ]
     refine yD (v:=.tuple #[.slice (some ⟨b8,0,none⟩) ls.length ls.length,.int .i64 0]) (by simp[results,Tryz.results155,go_sem]) rfl ⟨some ⟨b8,0,none⟩,ls.length,zbJ ls,0,by rw[hlf],by rw[hlf];exact K1.out,HEq.out.1,Or.inl ⟨rfl,HEq.out.2⟩,HB8.out⟩
   ·have zk4:¬(c=f.length):=hce
    have hK:f.length<=f.length:=qL _
    have HOnes:Hid (∀p∈f.take f.length,p.length=1):=zqh (fun p hp=>by have:=hall p (qP hp);simpa using this)
    clear hall
    have zk1:(f.length:Int)<=(f.length:Int):=by omega
    have zk2:(f.length:Int)<=(c:Int):=by omega
    have zk3:(0:Int)<=(f.length:Int):=by omega
    have hft:=(HF.out.next HB2.out).take f.length hK
    have hfs:(f.take f.length).flatten.length<=100000:=by
     have:=zgr HOnes.out
     rw[jR] at this
     omega
    have hC:=zfn _ (some ⟨ba,oa,sa⟩) f.length c w2 hft.srcs (by rw[zes];omega)
    rw[zes,zji] at hC
    have HC:=zqh hC
    have HUp:=zqh (zis (kG (List.take_sublist f.length f) HFm.out.sorted) HOnes.out)
    have HN0:Hid (∀x∈(f.take f.length).flatten,0<=x/\x<=9223372036854775807):=zqh (fun x hx=>by
     obtain ⟨p,hp,hx⟩:=List.mem_flatten.1 hx
     have hpf:=qP hp
     obtain ⟨j,hj,rfl⟩:=List.mem_iff_getElem.1 hpf
     obtain ⟨_,_,_,_,_,_,_,hi⟩:=HF.out.at j hj
     obtain ⟨_,_,_,_,_,h4,_⟩:=hi
     rw[zaz hj] at h4
     exact ⟨(HFm.out.up _ hpf).2 x hx,(h4 x hx).2⟩)
    have HHold:Hid (∀on,zap [(f.take f.length).flatten] on=zcE (f.take f.length) on):=zqh (fun on=>zee HOnes.out on)
    have HFsl:=zqh hfs
    clear hC hft hfs
    go_wp2_with fail
    try go_wp2_with fail
    refine HC.out.mono ?_
    rintro e w3 ⟨v3,rfl,o1,o2⟩
    have HB3:=zqh (HB2.out.trans (o2.mono HB2.out.size))
    obtain ⟨F,hF⟩:∃F,(f.take f.length).flatten=F:=⟨_,rfl⟩
    rw[hF] at o1 HUp HN0 HHold HFsl
    obtain ⟨A3,c3,rfl,i3,_⟩:=zfr o1 (fun x hx=>by have:=HN0.out x hx;unfold IsI;omega)
    have I3:=zqh i3
    have hFi:Hid (∀x∈F,x∈L):=zqh (fun x hx=>by
     rw[<-hF] at hx
     obtain ⟨p,hp,hx⟩:=List.mem_flatten.1 hx
     exact HSf.out.inn p (qP hp) x hx)
    clear o1 o2 i3 hF
    go_wp2_with fail
    refine (zfP F A3 _ c3 w3 I3.out (fun x hx=>(HN0.out x hx).1)).mono ?_
    rintro e w4 ⟨m,rfl,hmk,hb4⟩
    have HM:=zqh hmk
    have HB4:=zqh (HB3.out.trans (hb4.mono HB3.out.size))
    have hpt:zbB w4 (fun _=>False) ⟨.slice A3 F.length c3,m,F⟩:=zde (I3.out.next hb4) (fun _ _ _ _ h=>h) HUp.out HN0.out HM.out
    have hps:=zit hpt
    have hb5:Below w4.heap.size w4 (w4.alloc (.cells #[.slice A3 F.length c3,.int .u64 m] 171)):=zqb
    have HPs:=zqh hps
    have HB5:=zqh (HB4.out.trans (hb5.mono HB4.out.size))
    clear hmk hb4 hpt hps hb5
    go_wp2_with fail
    generalize w4.alloc (.cells #[.slice A3 F.length c3,.int .u64 m] 171)=W5 at HPs HB5 ⊢
    generalize w4.heap.size=s4 at HPs ⊢
    go_loopw [5,6,28] (fun s5 s6 v wr=>s5=.slice (some ⟨s4,0,none⟩) 1 1/\s6=.bool true/\v=.int .i64 0/\W5=wr) (fun _ _ _ _=>0)
    case atStart=>exact ⟨rfl,rfl,rfl,rfl⟩
    case round =>
     obtain ⟨rfl,rfl,rfl,rfl⟩:=hrel
     obtain ⟨ls,s1,s2,s3,hll,s5⟩:∃ls:List Pt,zdC W5 (.slice (some ⟨s4,0,none⟩) 1 1) ls/\Fmd (zbJ ls)/\InL L ls/\ls.length<=200/\∀on,zap (zbJ ls) on=zcE f on :=
      ⟨_,HPs.out,zeI HUp.out (fun x hx=>(HN0.out x hx).1),(fun x hx n hn=>by rw[List.mem_singleton.1 hx] at hn;exact hFi.out n hn),(by simp),fun on=>by have:=HHold.out on;rw[qQ] at this;exact this⟩
     have hans:=zfU ls (some ⟨s4,0,none⟩) 1 1 W5 s1 (by omega) (fun x hx=>by have:=zg9 HL.out (s1.2 x hx).2.1.1 (s3 x hx);have:=H9.out;omega)
     have hEq:zbf L (zbJ ls)/\∀on,zap (zbJ ls) on=zcE f on:=⟨⟨s2,fun p hp n hn=>(by
      obtain ⟨x,hx,rfl⟩:=List.mem_map.1 hp
      exact s3 x hx n hn),by simp[zbJ];exact hll⟩,s5⟩
     have HAns:=zqh hans
     have HEq:=zqh hEq
     clear hans hEq s1 s2 s3 s5 hll
     go_wp2_with fail
     refine HAns.out.mono ?_
     rintro e w8 ⟨b8,rfl,k1,k2⟩
     have K1:=zqh (k1.low (base':=w.heap.size) HB5.out.size)
     have HB8:=zqh (HB5.out.trans (k2.mono HB5.out.size))
     clear k1 k2
     go_wp2_with fail
     have hlf:(zbJ ls).length=ls.length:=by simp[zbJ]
     refine yD (v:=.tuple #[.slice (some ⟨b8,0,none⟩) ls.length ls.length,.int .i64 0]) (by simp[results,Tryz.results155,go_sem]) rfl ⟨some ⟨b8,0,none⟩,ls.length,zbJ ls,0,by rw[hlf],by rw[hlf];exact K1.out,HEq.out.1,Or.inl ⟨rfl,HEq.out.2⟩,HB8.out⟩
 ·have hz0:¬((k:Int)<0):=by omega
  obtain ⟨ba,oa,_,_,rfl,_⟩:=HF.out.at k hk
  have hK:k<=f.length:=(by omega)
  have HOnes:Hid (∀p∈f.take k,p.length=1):=zqh (fun p hp=>by
   obtain ⟨j,hj,rfl⟩:=List.mem_iff_getElem.1 hp
   have hj':j<k:=by rw[jR] at hj;omega
   have:=hall j hj'
   rw[zaz (by omega)] at this
   rw[List.getElem_take]
   simpa using this)
  clear hall
  have zk1:(k:Int)<=(f.length:Int):=by omega
  have zk2:(k:Int)<=(c:Int):=by omega
  have zk3:(0:Int)<=(k:Int):=by omega
  have hft:=(HF.out.next HB2.out).take k hK
  have hfs:(f.take k).flatten.length<=100000:=by
   have:=zgr HOnes.out
   rw[jR] at this
   omega
  have hC:=zfn _ (some ⟨ba,oa,none⟩) k c w2 hft.srcs (by rw[zes];omega)
  rw[zes,zji] at hC
  have HC:=zqh hC
  have HUp:=zqh (zis (kG (List.take_sublist k f) HFm.out.sorted) HOnes.out)
  have HN0:Hid (∀x∈(f.take k).flatten,0<=x/\x<=9223372036854775807):=zqh (fun x hx=>by
   obtain ⟨p,hp,hx⟩:=List.mem_flatten.1 hx
   have hpf:=qP hp
   obtain ⟨j,hj,rfl⟩:=List.mem_iff_getElem.1 hpf
   obtain ⟨_,_,_,_,_,_,_,hi⟩:=HF.out.at j hj
   obtain ⟨_,_,_,_,_,h4,_⟩:=hi
   rw[zaz hj] at h4
   exact ⟨(HFm.out.up _ hpf).2 x hx,(h4 x hx).2⟩)
  have HHold:Hid (∀on,zap [(f.take k).flatten] on=zcE (f.take k) on):=zqh (fun on=>zee HOnes.out on)
  have HFsl:=zqh hfs
  clear hC hft hfs
  have zk4:¬(c=k):=by omega
  go_wp2_with fail
  try go_wp2_with fail
  refine HC.out.mono ?_
  rintro e w3 ⟨v3,rfl,o1,o2⟩
  have HB3:=zqh (HB2.out.trans (o2.mono HB2.out.size))
  obtain ⟨F,hF⟩:∃F,(f.take k).flatten=F:=⟨_,rfl⟩
  rw[hF] at o1 HUp HN0 HHold HFsl
  obtain ⟨A3,c3,rfl,i3,_⟩:=zfr o1 (fun x hx=>by have:=HN0.out x hx;unfold IsI;omega)
  have I3:=zqh i3
  have hFi:Hid (∀x∈F,x∈L):=zqh (fun x hx=>by
   rw[<-hF] at hx
   obtain ⟨p,hp,hx⟩:=List.mem_flatten.1 hx
   exact HSf.out.inn p (qP hp) x hx)
  clear o1 o2 i3 hF
  go_wp2_with fail
  refine (zfP F A3 _ c3 w3 I3.out (fun x hx=>(HN0.out x hx).1)).mono ?_
  rintro e w4 ⟨m,rfl,hmk,hb4⟩
  have HM:=zqh hmk
  have HB4:=zqh (HB3.out.trans (hb4.mono HB3.out.size))
  have hpt:zbB w4 (fun _=>False) ⟨.slice A3 F.length c3,m,F⟩:=zde (I3.out.next hb4) (fun _ _ _ _ h=>h) HUp.out HN0.out HM.out
  have hps:=zit hpt
  have hb5:Below w4.heap.size w4 (w4.alloc (.cells #[.slice A3 F.length c3,.int .u64 m] 171)):=zqb
  have HPs:=zqh hps
  have HB5:=zqh (HB4.out.trans (hb5.mono HB4.out.size))
  clear hmk hb4 hpt hps hb5
  go_wp2_with fail
  generalize w4.alloc (.cells #[.slice A3 F.length c3,.int .u64 m] 171)=W5 at HPs HB5 ⊢
  generalize w4.heap.size=s4 at HPs ⊢
  have HD:Hid (zcF w (.slice (some ⟨ba,oa+k,none⟩) (f.length-k) (c-k)) (f.drop k)):=zqh (by
   have:=HF.out.drop k hK
   rwa [if_neg zk4] at this)
  go_loopw [5,6,28] (fun s5 s6 v wr=>∃(i n5 c5:Nat) (A5:Option Addr),i<=f.length-k/\v=.int .i64 i/\s6=.bool true/\s5=.slice A5 n5 c5/\Hid (Below w.heap.size w wr)/\Hid (∃ls:List Pt,zdC wr (.slice A5 n5 c5) ls/\Fmd (zbJ ls)/\InL L ls/\ls.length<=200/\∀on,zap (zbJ ls) on=zcE (f.take (k+i)) on)) (fun _ _ v _=>f.length-k-(intOf v).toNat)
  case atStart=>exact ⟨0,1,1,some ⟨s4,0,none⟩,qK _,rfl,rfl,rfl,HB5,zqh ⟨_,HPs.out,zeI HUp.out (fun x hx=>(HN0.out x hx).1),fun x hx n hn=>by
   rw[List.mem_singleton.1 hx] at hn;exact hFi.out n hn,(by simp),fun on=>by rw[Nat.add_zero];exact HHold.out on⟩⟩
  case round =>
   obtain ⟨i,n5,c5,A5,hi,rfl,rfl,rfl,HB,HS⟩:=hrel
   by_cases hlt:i<f.length-k
   ·have h1:(0:Int)<=(i:Int):=by omega
    have h2:(i:Int)<((f.length-k:Nat):Int):=by omega
    have h2':(i:Int)<(f.length:Int)-(k:Int):=by omega
    have hdl:i<(f.drop k).length:=by rw[List.length_drop];exact hlt
    obtain ⟨b8,off8,A8,c8,hA8,_,q0,hp⟩:=(HD.out.next HB.out).at i hdl
    injection hA8 with hA8
    injection hA8 with e1 e2
    subst e1 e2
    have hmem:za5 (f.drop k) i∈f:=by rw[zaz hdl];exact List.mem_of_mem_drop (qG hdl)
    have hlen8:(za5 (f.drop k) i).length<=20000:=by have:=HSf.out.part HL.out hmem;have:=H9.out;omega
    have hAt:=zqq (za5 (f.drop k) i) A8 _ c8 wr hp (by omega) (HFm.out.up _ hmem).2
    have HAt:=zqh hAt
    have HMem:=zqh hmem
    have HLen8:=zqh hlen8
    clear hAt hp hmem hlen8 hdl
    go_wp2_with fail
    refine HAt.out.mono ?_
    rintro e w6 ⟨v6,ps,rfl,p1,p2,p3,p4⟩
    obtain ⟨ls,s1,s2,s3,s4',s5⟩:∃ls:List Pt,zdC wr (.slice A5 n5 c5) ls/\Fmd (zbJ ls)/\InL L ls/\(True/\∀on,zap (zbJ ls) on=zcE (f.take (k+i)) on):=by
     obtain ⟨ls,a,b,c,_,d⟩:=HS.out
     exact ⟨ls,a,b,c,trivial,d⟩
    have r6:zdC w6 v6 ps:=p1.read (fun x hx=>(p2 x hx).forget (fun _ _ h=>h.elim))
    have hpsl:ps.length=(za5 (f.drop k) i).length:=by rw[<-qS (f:=(·.l)),p3,qS]
    have hpin:InL L ps:=fun x hx n hn=>by
     have:x.l∈ps.map (·.l):=List.mem_map.2 ⟨x,hx,rfl⟩
     rw[p3] at this
     obtain ⟨y,hy,e⟩:=List.mem_map.1 this
     rw[<-e,xG] at hn
     subst hn
     exact HSf.out.inn _ HMem.out _ hy
    have hp9:ps.length<=20000:=by have:=HLen8.out;omega
    obtain ⟨A6,c6,rfl⟩:=zbI p1
    have hAn:=zvD ls ps L A5 A6 n5 c5 _ c6 w6 (s1.next p4) r6 HL.out H9.out s3 hpin hp9
    have HAn:=zqh hAn
    have HP3:=zqh p3
    have HB6:=zqh (HB.out.trans (p4.mono HB.out.size))
    have HS5:=zqh s5
    clear hAn p1 p2 p3 p4 s1 s2 s3 s4' s5 r6 hpsl hpin hp9
    go_wp2_with fail
    refine HAn.out.mono ?_
    rintro e w7 ⟨v7,r7,ok,rfl,l1,l2,l3,l4,l200,l5,l6⟩
    obtain ⟨A7,c7,rfl⟩:=zbI l1
    have r7r:zdC w7 (.slice A7 r7.length c7) r7:=l1.read (fun x hx=>(l2 x hx).forget (fun _ _ h=>h.elim))
    have R7:=zqh r7r
    have L3:=zqh l3
    have L4:=zqh l4
    have L200:=zqh l200
    have HB7:=zqh (HB6.out.trans (l6.mono HB6.out.size))
    clear l1 l2 l3 l4 l200 l6 r7r
    cases ok
    ·clear l5
     go_wp2_with fail
     refine (zhb _ _).mono ?_
     rintro e w8 ⟨rfl,h8⟩
     obtain rfl:w7=w8:=h8.symm
     go_wp2_with fail
     exact yD (v:=.tuple #[.slice none 0 0,.int .i64 4]) (by simp[results,Tryz.results155,go_sem]) rfl ⟨none,0,[],4,rfl,zaZ.none _ _,zbf.nil _,Or.inr ⟨rfl,rfl⟩,HB7.out⟩
    ·have L5:=zqh (l5 rfl)
     clear l5
     go_wp2_with fail
     refine ⟨⟨i+1,_,_,_,by omega,by go_num,rfl,rfl,HB7,zqh ⟨r7,R7.out,L3.out,L4.out,L200.out,fun on=>?_⟩⟩,by simp[intOf];omega⟩
     have e9:f.take (k+(i+1))=f.take (k+i)++[za5 (f.drop k) i]:=by
      rw[<-Nat.add_assoc,zct f (k+i) (by omega),zaz (by rw[List.length_drop];omega),List.getElem_drop]
     rw[L5.out on,HS5.out on,e9,zoc,zod]
     show (_&&zap (ps.map (·.l)) on)=_
     rw[HP3.out,zkj]
   ·obtain rfl:i=f.length-k:=by omega
    obtain ⟨ls,s1,s2,s3,hll,s5⟩:=HS.out
    obtain rfl:=s1.len
    have hans:=zfU ls A5 _ c5 wr s1 (by omega) (fun x hx=>by have:=zg9 HL.out (s1.2 x hx).2.1.1 (s3 x hx);have:=H9.out;omega)
    have hEq:zbf L (zbJ ls)/\∀on,zap (zbJ ls) on=zcE f on:=⟨⟨s2,fun p hp n hn=>(by
     obtain ⟨x,hx,rfl⟩:=List.mem_map.1 hp
     exact s3 x hx n hn),by simp[zbJ];exact hll⟩,(fun on=>by rw[s5 on,show k+(f.length-k)=f.length by omega,qQ])⟩
    have HAns:=zqh hans
    have HEq:=zqh hEq
    clear hans hEq s1 s2 s3 s5 hll
    go_wp2_with fail
    refine HAns.out.mono ?_
    rintro e w8 ⟨b8,rfl,k1,k2⟩
    have K1:=zqh (k1.low (base':=w.heap.size) HB.out.size)
    have HB8:=zqh (HB.out.trans (k2.mono HB.out.size))
    clear k1 k2
    go_wp2_with fail
    have hlf:(zbJ ls).length=ls.length:=by simp[zbJ]
    refine yD (v:=.tuple #[.slice (some ⟨b8,0,none⟩) ls.length ls.length,.int .i64 0]) (by simp[results,Tryz.results155,go_sem]) rfl ⟨some ⟨b8,0,none⟩,ls.length,zbJ ls,0,by rw[hlf],by rw[hlf];exact K1.out,HEq.out.1,Or.inl ⟨rfl,HEq.out.2⟩,HB8.out⟩
end

section
open Go.RowKit
theorem zmj {f:Fm} {on on':List Int} (h:∀p∈f,∀x∈p,(x∈on'↔¬x∈on)):zcE f on=!zap f on':=by
 have hh:∀(l:List Int) (n:Int),ziw l n=true↔n∈l:=fun l n=>by
  unfold ziw
  rw[jI]
  exact ⟨fun ⟨x,hx,e⟩=>by rw[beq_iff_eq] at e;rw[<-e];exact hx,fun hx=>⟨n,hx,by simp⟩⟩
 rw[qZ,kP,Bool.eq_false_iff]
 unfold zcE
 rw[jJ]
 constructor
 ·intro a b
  obtain ⟨p,hp,ht⟩:=List.any_eq_true.1 b
  obtain ⟨x,hx,hx2⟩:=List.any_eq_true.1 (a p hp)
  have h2:=(hh _ _).1 (List.all_eq_true.1 ht x hx)
  exact (h p hp x hx).1 h2 ((hh _ _).1 hx2)
 ·intro a p hp
  refine Classical.byContradiction fun hn=>a (List.any_eq_true.2 ⟨p,hp,List.all_eq_true.2 (fun x hx=>(hh _ _).2 ?_)⟩)
  exact (h p hp x hx).2 (fun q=>hn (List.any_eq_true.2 ⟨x,hx,(hh _ _).2 q⟩))
section
variable {p:LP} {w:World} {ns:List Nd} {F:Nat->Prop} {many:Bool}
theorem LW.cells (h:LW p w ns F many):w.cell? ⟨p.gw,0,none⟩=some p.a/\w.cell? ⟨p.gw,1,none⟩=some (.int .u8 p.b)/\w.cell? ⟨p.gw,2,none⟩=some (.int .u8 p.bt)/\w.cell? ⟨p.gw,3,none⟩=some (.map (some p.mf))/\w.cell? ⟨p.gw,4,none⟩=some (.map (some p.ml))/\w.cell? ⟨p.gw,5,none⟩=some (.map (some p.mn))/\w.cell? ⟨p.gw,6,none⟩=some (.int .i64 p.before)/\w.cell? ⟨p.gw,7,none⟩=some (.bool many) :=
 ⟨h.box.cell 0,h.box.cell 1,h.box.cell 2,h.box.cell 3,h.box.cell 4,h.box.cell 5,h.box.cell 6,h.box.cell 7⟩
theorem zjm (h:LW p w ns F many) (many':Bool) (hm:many=true->many'=true):za8 p w ns F many (w.setCell ⟨p.gw,7,none⟩ (.bool many')) ns F many' :=
 ⟨⟨[],(jA _).symm⟩,h.setMany many' hm,fun b q=>Or.inl q,(OffF.of (qT _ w)).set (Or.inr (Or.inl rfl)) _,hm⟩
theorem zmk (h:LW p w ns F many) (id:Int):Calls Tryz.prog 154 #[.pointer (some ⟨p.gw,0,none⟩),.int .i64 id] w fun e w'=>e=.returned (.int .i64 id)/\za8 p w ns F many w' ns F (many||decide (id<0)):=by
 have c7:=h.cells.2.2.2.2.2.2.2
 have f7:=h.box.free 7
 have HG:=zqh (zjm h (many||decide (id<0)) (fun q=>by rw[q];rfl))
 clear h
 cases many
 ·by_cases h0:id<0
  ·have h1:decide (id<0)=true:=qD h0
   rw[h1] at HG ⊢
   go_enter Tryz.func154,Tryz.ntmps154
   go_wp2_with fail
   go_ret
   exact ⟨rfl,HG.out⟩
  ·have h1:decide (id<0)=false:=qE h0
   rw[h1] at HG ⊢
   go_enter Tryz.func154,Tryz.ntmps154
   go_wp2_with fail
   go_ret
   exact ⟨rfl,HG.out⟩
 ·go_enter Tryz.func154,Tryz.ntmps154
  go_wp2_with fail
  go_ret
  exact ⟨rfl,HG.out⟩
theorem zsP (h:LW p w ns F many) (A:Option Addr) (n c:Nat) (er:Int) (her:er=0\/er=4):Calls Tryz.prog 150 #[.pointer (some ⟨p.gw,0,none⟩),.slice A n c,.int .i64 er] w fun e w'=>e=.returned (.slice A n c)/\za8 p w ns F many w' ns F (many||decide (er=4)):=by
 have c7:=h.cells.2.2.2.2.2.2.2
 have f7:=h.box.free 7
 have HG:=zqh (zjm h (many||decide (er=4)) (fun q=>by rw[q];rfl))
 clear h
 cases many
 ·rcases her with rfl | rfl
  ·go_enter Tryz.func150,Tryz.ntmps150
   go_wp2_with fail
   go_ret
   exact ⟨rfl,HG.out⟩
  ·go_enter Tryz.func150,Tryz.ntmps150
   go_wp2_with fail
   go_ret
   exact ⟨rfl,HG.out⟩
 ·go_enter Tryz.func150,Tryz.ntmps150
  go_wp2_with fail
  go_ret
  exact ⟨rfl,HG.out⟩
theorem zkk {f g:Fm} {v u:Value} (h:LW p w ns F many) (hv:zaJ (XY p F) w v f) (hu:zaJ (XY p F) w u g) (hf:zbf (Ls ns) f) (hg:zbf (Ls ns) g) :
  Calls Tryz.prog 108 #[.pointer (some ⟨p.gw,0,none⟩),v,u] w (za9 p w ns F many fun ms x=>∀P,fP P x=(fP P f||fP P g)):=by
 obtain ⟨A,c,rfl⟩:=hv.at
 obtain ⟨B,d,rfl⟩:=hu.at
 have HO:=zqh (zvS (Ls ns) (zjl ns) (by rw[zf5];exact h.few) hv.here hu.here hf hg)
 have HW:=zqh h
 clear h hv hu hf hg
 go_enter Tryz.func108,Tryz.ntmps108
 go_wp2_with fail
 refine HO.out.mono ?_
 rintro e w1 ⟨A1,c1,x,er,rfl,h1,h2,h3,hb⟩
 have her:er=0\/er=4:=h3.imp (fun q=>q.1) (fun q=>q.1)
 have HM:=zqh (zsP (HW.out.next hb) A1 x.length c1 er her)
 have HK:=zqh (zaZ.keeps HW.out h1)
 have HI:=zqh h2
 have HR:=zqh h3
 have HB:=zqh hb
 clear h1 h2 h3 hb her
 go_wp2_with fail
 refine HM.out.mono ?_
 rintro e w2 ⟨rfl,hg⟩
 have HG:=zqh hg
 clear hg
 go_wp2_with fail
 go_ret
 refine za9.done ((za8.of HW.out HB.out).trans HG.out) (HK.out.grow HG.out) HI.out (fun hm=>?_)
 rcases HR.out with ⟨_,q⟩ | ⟨q,_⟩
 ·exact fun P=>zuI q P
 ·rw[q] at hm;simp at hm
theorem zvg {f g:Fm} {v u:Value} (h:LW p w ns F many) (hv:zaJ (XY p F) w v f) (hu:zaJ (XY p F) w u g) (hf:zbf (Ls ns) f) (hg:zbf (Ls ns) g) :
  Calls Tryz.prog 110 #[.pointer (some ⟨p.gw,0,none⟩),v,u] w (za9 p w ns F many fun ms x=>∀P,fP P x=(fP P f&&fP P g)):=by
 obtain ⟨A,c,rfl⟩:=hv.at
 obtain ⟨B,d,rfl⟩:=hu.at
 have HO:=zqh (zve (Ls ns) (zjl ns) (by rw[zf5];exact h.few) hv.here hu.here hf hg)
 have HW:=zqh h
 clear h hv hu hf hg
 go_enter Tryz.func110,Tryz.ntmps110
 go_wp2_with fail
 refine HO.out.mono ?_
 rintro e w1 ⟨A1,c1,x,er,rfl,h1,h2,h3,hb⟩
 have her:er=0\/er=4:=h3.imp (fun q=>q.1) (fun q=>q.1)
 have HM:=zqh (zsP (HW.out.next hb) A1 x.length c1 er her)
 have HK:=zqh (zaZ.keeps HW.out h1)
 have HI:=zqh h2
 have HR:=zqh h3
 have HB:=zqh hb
 clear h1 h2 h3 hb her
 go_wp2_with fail
 refine HM.out.mono ?_
 rintro e w2 ⟨rfl,hg⟩
 have HG:=zqh hg
 clear hg
 go_wp2_with fail
 go_ret
 refine za9.done ((za8.of HW.out HB.out).trans HG.out) (HK.out.grow HG.out) HI.out (fun hm=>?_)
 rcases HR.out with ⟨_,q⟩ | ⟨q,_⟩
 ·exact fun P=>ztn q P
 ·rw[q] at hm;simp at hm
theorem zvh {f:Fm} {v:Value} (h:LW p w ns F many) (hv:zaJ (XY p F) w v f) (hf:zbf (Ls ns) f) :
  Calls Tryz.prog 113 #[.pointer (some ⟨p.gw,0,none⟩),v] w (za9 p w ns F many fun ms x=>zbf (Ls ns) x/\∀P,fP P x=!fP (fun n=>!P n) f):=by
 obtain ⟨A,c,rfl⟩:=hv.at
 have HO:=zqh (zvf (Ls ns) (zjl ns) (by rw[zf5];exact h.few) hv.here hf)
 have HW:=zqh h
 clear h hv hf
 go_enter Tryz.func113,Tryz.ntmps113
 go_wp2_with fail
 refine HO.out.mono ?_
 rintro e w1 ⟨A1,c1,x,er,rfl,h1,h2,h3,hb⟩
 have her:er=0\/er=4:=h3.imp (fun q=>q.1) (fun q=>q.1)
 have HM:=zqh (zsP (HW.out.next hb) A1 x.length c1 er her)
 have HK:=zqh (zaZ.keeps HW.out h1)
 have HI:=zqh h2
 have HR:=zqh h3
 have HB:=zqh hb
 clear h1 h2 h3 hb her
 go_wp2_with fail
 refine HM.out.mono ?_
 rintro e w2 ⟨rfl,hg⟩
 have HG:=zqh hg
 clear hg
 go_wp2_with fail
 go_ret
 refine za9.done ((za8.of HW.out HB.out).trans HG.out) (HK.out.grow HG.out) HI.out (fun hm=>⟨HI.out,?_⟩)
 rcases HR.out with ⟨_,q⟩ | ⟨q,_⟩
 ·exact fun P=>zrD (fun on on' hc=>by rw[q on];exact zmj hc) P
 ·rw[q] at hm;simp at hm
theorem zoe (f:Fm) (v:Value) (w:World) (h:zcF w v f):Calls Tryz.prog 107 #[v] w fun e w'=>e=.returned (.bool (decide (f=[[]])))/\w'=w:=by
 have hm:=h
 obtain ⟨A,c,rfl,_⟩:=hm
 by_cases h1:f.length=1
 ·obtain ⟨q,hq⟩:∃q,f=[q]:=by
   match f,h1 with
   | [q],_=>exact ⟨q,rfl⟩
  subst hq
  obtain ⟨b,off,A2,c2,rfl,hbl,q0,hp⟩:=h.at 0 (by simp)
  rw[Nat.add_zero] at q0
  have hpa:za5 [q] 0=q:=rfl
  rw[hpa] at q0
  have e1:([q]:Fm).length=1:=rfl
  rw[e1]
  by_cases h2:q.length=0
  ·have h3:q=[]:=qU h2
   subst h3
   have q0':w.cell? ⟨b,off,none⟩=some (.slice A2 0 c2):=q0
   clear h q0 hp hpa
   go_enter Tryz.func107,Tryz.ntmps107
   go_wp2_with fail
   go_ret
   exact ⟨by simp,rfl⟩
  ·have h3:¬((q.length:Int)=0):=by omega
   have h4:=(zab h3).1
   have HD:Hid (decide (([q]:Fm)=[[]])=false):=zqh (qE (fun e=>h2 (by injection e with e;rw[e];rfl)))
   rw[HD.out]
   clear h hp hpa h2
   go_enter Tryz.func107,Tryz.ntmps107
   go_wp2_with fail
   go_ret
   exact ⟨rfl,rfl⟩
 ·have h3:¬((f.length:Int)=1):=by omega
  have h4:=(zab h3).1
  have h5:((f.length:Int)==1)=false:=h4
  have HD:Hid (decide (f=[[]])=false):=zqh (qE (fun e=>h1 (by rw[e];rfl)))
  rw[HD.out]
  clear h h1
  go_enter Tryz.func107,Tryz.ntmps107
  go_wp2_with fail
  go_ret
  exact ⟨rfl,rfl⟩
theorem zjn (base:Nat) (w:World) (A:Option Addr) (c:Nat) (hA:c<=9223372036854775807):zaZ base w (.slice A 0 c) []:=fun w' _ _=>⟨A,c,rfl,qK _,hA,fun h=>absurd h (jM _)⟩
theorem zjo (w:World):zaZ w.heap.size ((w.alloc (.cells #[] 3)).alloc (.cells #[.slice (some ⟨w.heap.size,0,none⟩) 0 0] 80)) (.slice (some ⟨w.heap.size+1,0,none⟩) 1 1) [[]]:=fun w' hk hz=>by
 have hA:At ((w.alloc (.cells #[] 3)).alloc (.cells #[.slice (some ⟨w.heap.size,0,none⟩) 0 0] 80)) (w.heap.size+1) 80 #[.slice (some ⟨w.heap.size,0,none⟩) 0 0]:=by
  have:=At.new (w.alloc (.cells #[] 3)) 80 #[.slice (some ⟨w.heap.size,0,none⟩) 0 0]
  rwa [qV] at this
 have hA':At w' (w.heap.size+1) 80 #[.slice (some ⟨w.heap.size,0,none⟩) 0 0]:=(hk _ (kU _) hA.lt).trans hA
 refine ⟨_,1,rfl,qL _,by omega,fun _=>⟨_,0,rfl,hA'.lt,fun j hj=>?_⟩⟩
 have hj:j<1:=hj
 obtain rfl:j=0:=by omega
 exact ⟨_,hA'.cell 0,⟨_,0,rfl,qL _,by omega,(fun x hx=>by cases hx),fun h=>absurd h (jM _)⟩⟩
theorem zjp (w:World) (n:Int) (hn:IsI n):zaZ w.heap.size ((w.alloc (.cells #[.int .i64 n] 3)).alloc (.cells #[.slice (some ⟨w.heap.size,0,none⟩) 1 1] 80)) (.slice (some ⟨w.heap.size+1,0,none⟩) 1 1) [[n]]:=fun w' hk hz=>by
 have hA:At ((w.alloc (.cells #[.int .i64 n] 3)).alloc (.cells #[.slice (some ⟨w.heap.size,0,none⟩) 1 1] 80)) (w.heap.size+1) 80 #[.slice (some ⟨w.heap.size,0,none⟩) 1 1]:=by
  have:=At.new (w.alloc (.cells #[.int .i64 n] 3)) 80 #[.slice (some ⟨w.heap.size,0,none⟩) 1 1]
  rwa [qV] at this
 have hI:At ((w.alloc (.cells #[.int .i64 n] 3)).alloc (.cells #[.slice (some ⟨w.heap.size,0,none⟩) 1 1] 80)) w.heap.size 3 #[.int .i64 n]:=(At.new w 3 #[.int .i64 n]).alloc _
 have hA':At w' (w.heap.size+1) 80 #[.slice (some ⟨w.heap.size,0,none⟩) 1 1]:=(hk _ (kU _) hA.lt).trans hA
 have hI':At w' w.heap.size 3 #[.int .i64 n]:=(hk _ zqn hI.lt).trans hI
 refine ⟨_,1,rfl,qL _,by omega,fun _=>⟨_,0,rfl,hA'.lt,fun j hj=>?_⟩⟩
 have hj:j<1:=hj
 obtain rfl:j=0:=by omega
 refine ⟨_,hA'.cell 0,⟨_,1,rfl,qL _,by omega,(fun x hx=>by rw[List.mem_singleton.1 hx];exact hn),fun _=>⟨_,0,rfl,hI'.lt,fun k hk'=>?_⟩⟩⟩
 have hk':k<1:=hk'
 obtain rfl:k=0:=by omega
 exact hI'.cell 0
theorem zhd (w:World):Calls Tryz.prog 93 #[] w fun e w'=>∃A c,e=.returned (.slice A 0 c)/\zaZ w.heap.size w' (.slice A 0 c) []/\Below w.heap.size w w':=by
 have HB:Hid (Below w.heap.size w (w.alloc (.cells #[] 80))):=zqh (zqb)
 go_enter Tryz.func93,Tryz.ntmps93
 go_wp2_with fail
 go_ret
 exact ⟨_,_,rfl,zjn _ _ _ _ (by omega),HB.out⟩
theorem zvi (w:World):Calls Tryz.prog 136 #[] w fun e w'=>∃A c,e=.returned (.slice A 1 c)/\zaZ w.heap.size w' (.slice A 1 c) [[]]/\Below w.heap.size w w':=by
 have HB:Hid (Below w.heap.size w ((w.alloc (.cells #[] 3)).alloc (.cells #[.slice (some ⟨w.heap.size,0,none⟩) 0 0] 80))):=zqh ((zqb).alloc (by simp) _)
 have HT:=zqh (zjo w)
 go_enter Tryz.func136,Tryz.ntmps136
 go_wp2_with fail
 go_ret
 exact ⟨_,_,rfl,HT.out,HB.out⟩
theorem zsQ (w:World) (n:Int) (h0:0<=n) (hn:IsI n):Calls Tryz.prog 97 #[.int .i64 n] w fun e w'=>∃A c,e=.returned (.slice A 1 c)/\zaZ w.heap.size w' (.slice A 1 c) [[n]]/\Below w.heap.size w w':=by
 have HB:Hid (Below w.heap.size w ((w.alloc (.cells #[.int .i64 n] 3)).alloc (.cells #[.slice (some ⟨w.heap.size,0,none⟩) 1 1] 80))):=zqh ((zqb).alloc (by simp) _)
 have HT:=zqh (zjp w n hn)
 have h1:¬n<0:=by omega
 have h2:decide (n<0)=false:=qE h1
 clear hn
 go_enter Tryz.func97,Tryz.ntmps97
 go_wp2_with fail
 go_ret
 exact ⟨_,_,rfl,HT.out,HB.out⟩
theorem zbf.true (L:List Int):zbf L [[]]:=⟨zeI List.Pairwise.nil (fun x hx=>by cases hx),(fun p hp n hn=>by rw[List.mem_singleton.1 hp] at hn;cases hn),by simp⟩
theorem zbf.atom {L:List Int} {n:Int} (h0:0<=n) (h:n∈L):zbf L [[n]]:=⟨zeI (kR _ _) (fun x hx=>by rw[List.mem_singleton.1 hx];exact h0),fun p hp m hm=>by rw[List.mem_singleton.1 hp] at hm;rw[List.mem_singleton.1 hm];exact h,by simp⟩
end
end
end Go.Proofs.YtdmodhnhldbpnaaGreat
