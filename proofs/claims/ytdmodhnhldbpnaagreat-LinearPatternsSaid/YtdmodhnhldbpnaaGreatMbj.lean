/- Joined: FgOps, FoS, FoT, FoU, FoV, FoW. -/
import Derived.Test.YtdmodhnhldbpnaaGreatMbi
import Derived.Test.YtdmodhnhldbpnaaGreatMbh
import Derived.Laws.EntriesVeiled
import Derived.Test.YtdmodhnhldbpnaaGreatMbg
import Derived.Test.YtdmodhnhldbpnaaGreatAid
/- package formula: Or, And, of any formed formulas. -/
set_option linter.unusedSimpArgs false
set_option linter.unusedVariables false
set_option maxHeartbeats 8000000
set_option maxRecDepth 100000
namespace Go.Proofs.YtdmodhnhldbpnaaGreat
section
open Go.RowKit
theorem zvS {w:World} {A B:Option Addr} {n c m d:Nat} {f g:Fm} (L:List Int) (hL:Up L) (h9:L.length<=20000) (hf:zcF w (.slice A n c) f) (hg:zcF w (.slice B m d) g) (hsf:zbf L f) (hsg:zbf L g) :
  Calls Tryz.prog 151 #[.slice A n c,.slice B m d] w (zsK w L fun on=>zap f on||zap g on):=by
 have HF:=zqh hf
 have HG:=zqh hg
 have HSf:=zqh hsf
 have HSg:=zqh hsg
 have HL:=zqh hL
 have H9:=zqh h9
 have hpf:∀p∈f,p.length<=100000:=fun p hp=>by have:=hsf.part hL hp;omega
 have hpg:∀p∈g,p.length<=100000:=fun p hp=>by have:=hsg.part hL hp;omega
 have h1:=zfV hf (by have:=hsf.few;omega) hpf
 have h2:=fun w' (hb:Below w.heap.size w w')=>zfV (hg.next hb) (by have:=hsg.few;omega) hpg
 rw[hsf.fm] at h1
 have H1:=zqh h1
 have H2:Hid (∀w',Below w.heap.size w w'->Calls Tryz.prog 64 #[.slice B m d] w' fun e w''=>e=.returned (.bool true)/\Below w'.heap.size w' w''):=zqh (fun w' hb'=>by have:=h2 w' hb';rwa [hsg.fm] at this)
 have HFm:=zqh hsf.fmd
 have HGm:=zqh hsg.fmd
 clear hf hg hsf hsg hL h9 hpf hpg h1 h2
 go_enter Tryz.func151,Tryz.ntmps151
 go_wp2_with fail
 refine H1.out.mono ?_
 rintro e w1 ⟨rfl,hb1⟩
 have HB1:=zqh hb1
 clear hb1
 go_wp2_with fail
 refine (H2.out w1 HB1.out).mono ?_
 rintro e w2 ⟨rfl,hb2⟩
 have HB2:=zqh (HB1.out.trans (hb2.mono HB1.out.size))
 clear hb2
 go_wp2_with fail
 refine (zfl f A n c w2 (HF.out.next HB2.out) (by have:=HSf.out.few;omega) (zlg HFm.out)).mono ?_
 rintro e w3 ⟨v3,ps,rfl,p1,p2,p3,p4⟩
 have HB3:=zqh (HB2.out.trans (p4.mono HB2.out.size))
 have P1:=zqh p1
 have P2:=zqh p2
 have P3:=zqh p3
 clear p1 p2 p3 p4
 go_wp2_with fail
 refine (zfl g B m d w3 (HG.out.next HB3.out) (by have:=HSg.out.few;omega) (zlg HGm.out)).mono ?_
 rintro e w4 ⟨v4,qs,rfl,q1,q2,q3,q4⟩
 have hB34:=zqh q4
 have HB4:=zqh (HB3.out.trans (q4.mono HB3.out.size))
 have Q1:=zqh q1
 have Q2:=zqh q2
 have Q3:=zqh q3
 clear q1 q2 q3 q4
 have r1:zdC w4 v3 ps:=(P1.out.next hB34.out).read (fun x hx=>((P2.out x hx).below hB34.out).forget (fun _ _ h=>h.elim))
 have r2:zdC w4 v4 qs:=Q1.out.read (fun x hx=>(Q2.out x hx).forget (fun _ _ h=>h.elim))
 have iP:InL L ps:=fun x hx n hn=>HSf.out.inn x.l (by rw[<-P3.out];exact List.mem_map.2 ⟨x,hx,rfl⟩) n hn
 have iQ:InL L qs:=fun x hx n hn=>HSg.out.inn x.l (by rw[<-Q3.out];exact List.mem_map.2 ⟨x,hx,rfl⟩) n hn
 have hpl:ps.length<=200:=by have:=HSf.out.few;rw[<-P3.out,qS] at this;exact this
 have hql:qs.length<=200:=by have:=HSg.out.few;rw[<-Q3.out,qS] at this;exact this
 have hsrc:=zqo (T:=138) r1.src r2.src
 have hba:Below w4.heap.size w4 (w4.alloc (.cells #[v3,v4] 138)):=zqb
 have hsum:zho [(ps.length,ps.flatMap zin),(qs.length,qs.flatMap zin)]=(ps++qs).length:=by simp[zho]
 have hcat:zn3 [(ps.length,ps.flatMap zin),(qs.length,qs.flatMap zin)]=(ps++qs).flatMap zin:=by simp[zn3]
 have hC:=zqf _ _ _ _ _ hsrc (by rw[hsum,qF];omega)
 rw[hsum,hcat] at hC
 have HC:=zqh hC
 have HBa:=zqh hba
 obtain ⟨A3,c3,rfl⟩:=zbI P1.out
 obtain ⟨A4,c4,rfl⟩:=zbI Q1.out
 have IP:=zqh iP
 have IQ:=zqh iQ
 clear hC hba hsrc hsum hcat r1 r2 iP iQ
 go_wp2_with fail
 refine HC.out.mono ?_
 rintro e w5 ⟨v5,rfl,o1,o2⟩
 have o1':Pts w5 w.heap.size v5 (ps++qs):=Pts.low (base:=(w4.alloc (.cells #[.slice A3 ps.length c3,.slice A4 qs.length c4] 138)).heap.size) o1 (qH HB4.out.size HBa.out.size)
 have hlow:=World.ownsRow.lt o1
 have hB45:Below w4.heap.size w4 w5:=HBa.out.trans (o2.mono HBa.out.size)
 have hok:∀x∈ps++qs,zbB w5 (fun b=>v5.ownBlock=some b) x:=by
  intro x hx
  rcases List.mem_append.1 hx with h | h
  ·refine ((((P2.out x h).forget (R':=fun _=>False) (fun _ _ h=>h.elim)).below hB34.out).below (qT _ _)).kept (R':=fun b=>v5.ownBlock=some b) hB45.size (fun b _ hb=>hB45.block b hb) (fun b hb e=>?_)
   have:=(hlow b e).1
   have:=HBa.out.size
   omega
  ·refine ((Q2.out x h).forget (R':=fun _=>False) (fun _ _ h=>h.elim)).kept (R':=fun b=>v5.ownBlock=some b) hB45.size (fun b _ hb=>hB45.block b hb) (fun b hb e=>?_)
   have:=(hlow b e).1
   have:=HBa.out.size
   omega
 have hin:InL L (ps++qs):=fun x hx=>by
  rcases List.mem_append.1 hx with h | h
  ·exact IP.out x h
  ·exact IQ.out x h
 have hLe:=zrc (ps++qs) 200 v5 w.heap.size w5 o1' hok (by rw[qF];omega) (fun x hx=>by have:=zg9 HL.out (hok x hx).2.1.1 (hin x hx);have:=H9.out;omega) (by omega)
 have HLe:=zqh hLe
 have HB5:=zqh (HB4.out.trans (hB45.mono HB4.out.size))
 have HIn:=zqh hin
 have HOk:=zqh hok
 clear hLe o1 o2 o1' hlow hB45 hok hin
 go_wp2_with fail
 refine HLe.out.mono ?_
 rintro e w7 ⟨v7,r,rfl,l1,⟨m1,m2⟩,_,m3,m4⟩
 obtain ⟨A7,c7,rfl⟩:=zbI l1
 have l6:Below w.heap.size w w7:=zcC HB5.out HB5.out.size m4 (fun k e=>by rw[<-m1] at e;exact (World.ownsRow.lt l1 k e).1)
 have HB7:=zqh l6
 rcases m3 with ⟨hrl,m3⟩ | hrl
 ·have l2:Fmd (zbJ r):=m3.1
  have l3:=zlf m3 HIn.out
  have l4:∀x∈r,zbB w7 (fun _=>False) x:=fun x hx=>(m2 (fun b=>v5.ownBlock=some b) (fun b e=>e) HOk.out x hx).forget (fun _ _ h=>h.elim)
  have l5:∀on,zap (zbJ r) on=(zap f on||zap g on):=fun on=>by rw[m3.holds on,<-P3.out,<-Q3.out,<-zha,<-jE]
  have hr5:zdC w7 (.slice A7 r.length c7) r:=l1.read l4
  have hans:=zfU r A7 _ c7 w7 hr5 (by omega) (fun x hx=>by have:=zg9 HL.out (l4 x hx).2.1.1 (l3 x hx);have:=H9.out;omega)
  have HAns:=zqh hans
  have HIn2:Hid (zbf L (zbJ r)):=zqh ⟨l2,fun p hp n hn=>(by
   obtain ⟨x,hx,rfl⟩:=List.mem_map.1 hp
   exact l3 x hx n hn),by simp[zbJ];exact hrl⟩
  have HHo:=zqh l5
  have hle:(r.length:Int)<=200:=by omega
  clear hans l1 l2 l3 l4 l5 l6 hr5 hrl m1 m2 m3 m4
  go_wp2_with fail
  try go_wp2_with fail
  refine HAns.out.mono ?_
  rintro e w8 ⟨b8,rfl,k1,k2⟩
  have K1:=zqh (k1.low (base':=w.heap.size) HB7.out.size)
  have HB8:=zqh (HB7.out.trans (k2.mono HB7.out.size))
  clear k1 k2
  go_wp2_with fail
  have hlf:(zbJ r).length=r.length:=by simp[zbJ]
  refine yD (v:=.tuple #[.slice (some ⟨b8,0,none⟩) r.length r.length,.int .i64 0]) (by simp[results,Tryz.results151,go_sem]) rfl ⟨some ⟨b8,0,none⟩,r.length,zbJ r,0,by rw[hlf],by rw[hlf];exact K1.out,HIn2.out,Or.inl ⟨rfl,HHo.out⟩,HB8.out⟩
 ·have hle:¬((r.length:Int)<=200):=by omega
  have hle2:decide ((r.length:Int)<=200)=false:=qE hle
  clear l1 m1 m2 m4 l6 hrl
  go_wp2_with fail
  try go_wp2_with fail
  refine (zhb _ _).mono ?_
  rintro e w8 ⟨rfl,h8⟩
  obtain rfl:w7=w8:=h8.symm
  go_wp2_with fail
  exact yD (v:=.tuple #[.slice none 0 0,.int .i64 4]) (by simp[results,Tryz.results151,go_sem]) rfl ⟨none,0,[],4,rfl,zaZ.none _ _,zbf.nil _,Or.inr ⟨rfl,rfl⟩,HB7.out⟩
theorem zve {w:World} {A B:Option Addr} {n c m d:Nat} {f g:Fm} (L:List Int) (hL:Up L) (h9:L.length<=20000) (hf:zcF w (.slice A n c) f) (hg:zcF w (.slice B m d) g) (hsf:zbf L f) (hsg:zbf L g) :
  Calls Tryz.prog 152 #[.slice A n c,.slice B m d] w (zsK w L fun on=>zap f on&&zap g on):=by
 have HF:=zqh hf
 have HG:=zqh hg
 have HSf:=zqh hsf
 have HSg:=zqh hsg
 have HL:=zqh hL
 have H9:=zqh h9
 have hpf:∀p∈f,p.length<=100000:=fun p hp=>by have:=hsf.part hL hp;omega
 have hpg:∀p∈g,p.length<=100000:=fun p hp=>by have:=hsg.part hL hp;omega
 have h1:=zfV hf (by have:=hsf.few;omega) hpf
 have h2:=fun w' (hb:Below w.heap.size w w')=>zfV (hg.next hb) (by have:=hsg.few;omega) hpg
 rw[hsf.fm] at h1
 have H1:=zqh h1
 have H2:Hid (∀w',Below w.heap.size w w'->Calls Tryz.prog 64 #[.slice B m d] w' fun e w''=>e=.returned (.bool true)/\Below w'.heap.size w' w''):=zqh (fun w' hb'=>by have:=h2 w' hb';rwa [hsg.fm] at this)
 have HFm:=zqh hsf.fmd
 have HGm:=zqh hsg.fmd
 clear hf hg hsf hsg hL h9 hpf hpg h1 h2
 go_enter Tryz.func152,Tryz.ntmps152
 go_wp2_with fail
 refine H1.out.mono ?_
 rintro e w1 ⟨rfl,hb1⟩
 have HB1:=zqh hb1
 clear hb1
 go_wp2_with fail
 refine (H2.out w1 HB1.out).mono ?_
 rintro e w2 ⟨rfl,hb2⟩
 have HB2:=zqh (HB1.out.trans (hb2.mono HB1.out.size))
 clear hb2
 go_wp2_with fail
 refine (zfl f A n c w2 (HF.out.next HB2.out) (by have:=HSf.out.few;omega) (zlg HFm.out)).mono ?_
 rintro e w3 ⟨v3,ps,rfl,p1,p2,p3,p4⟩
 have HB3:=zqh (HB2.out.trans (p4.mono HB2.out.size))
 have P1:=zqh p1
 have P2:=zqh p2
 have P3:=zqh p3
 clear p1 p2 p3 p4
 go_wp2_with fail
 refine (zfl g B m d w3 (HG.out.next HB3.out) (by have:=HSg.out.few;omega) (zlg HGm.out)).mono ?_
 rintro e w4 ⟨v4,qs,rfl,q1,q2,q3,q4⟩
 have hB34:=zqh q4
 have HB4:=zqh (HB3.out.trans (q4.mono HB3.out.size))
 have Q1:=zqh q1
 have Q2:=zqh q2
 have Q3:=zqh q3
 clear q1 q2 q3 q4
 have r1:zdC w4 v3 ps:=(P1.out.next hB34.out).read (fun x hx=>((P2.out x hx).below hB34.out).forget (fun _ _ h=>h.elim))
 have r2:zdC w4 v4 qs:=Q1.out.read (fun x hx=>(Q2.out x hx).forget (fun _ _ h=>h.elim))
 have iP:InL L ps:=fun x hx n hn=>HSf.out.inn x.l (by rw[<-P3.out];exact List.mem_map.2 ⟨x,hx,rfl⟩) n hn
 have iQ:InL L qs:=fun x hx n hn=>HSg.out.inn x.l (by rw[<-Q3.out];exact List.mem_map.2 ⟨x,hx,rfl⟩) n hn
 have hpl:ps.length<=200:=by have:=HSf.out.few;rw[<-P3.out,qS] at this;exact this
 have hql:qs.length<=200:=by have:=HSg.out.few;rw[<-Q3.out,qS] at this;exact this
 obtain ⟨A3,c3,rfl⟩:=zbI P1.out
 obtain ⟨A4,c4,rfl⟩:=zbI Q1.out
 have hAn:=zvD ps qs L A3 A4 _ c3 _ c4 w4 r1 r2 HL.out H9.out iP iQ (by omega)
 have HAn:=zqh hAn
 clear hAn r1 r2 iP iQ
 go_wp2_with fail
 refine HAn.out.mono ?_
 rintro e w7 ⟨v7,r,ok,rfl,l1,m2,l2,l3,hrl,m5,m6⟩
 obtain ⟨A7,c7,rfl⟩:=zbI l1
 have l6:Below w.heap.size w w7:=HB4.out.trans (m6.mono HB4.out.size)
 have HB7:=zqh l6
 cases ok
 ·clear l1 m2 l2 l3 m5 m6 l6 hrl
  go_wp2_with fail
  refine (zhb _ _).mono ?_
  rintro e w8 ⟨rfl,h8⟩
  obtain rfl:w7=w8:=h8.symm
  go_wp2_with fail
  exact yD (v:=.tuple #[.slice none 0 0,.int .i64 4]) (by simp[results,Tryz.results152,go_sem]) rfl ⟨none,0,[],4,rfl,zaZ.none _ _,zbf.nil _,Or.inr ⟨rfl,rfl⟩,HB7.out⟩
 ·have l4:∀x∈r,zbB w7 (fun _=>False) x:=fun x hx=>(m2 x hx).forget (fun _ _ h=>h.elim)
  have l5:∀on,zap (zbJ r) on=(zap f on&&zap g on):=fun on=>by rw[m5 rfl on,<-P3.out,<-Q3.out]
  have hr5:zdC w7 (.slice A7 r.length c7) r:=l1.read l4
  have hans:=zfU r A7 _ c7 w7 hr5 (by omega) (fun x hx=>by have:=zg9 HL.out (l4 x hx).2.1.1 (l3 x hx);have:=H9.out;omega)
  have HAns:=zqh hans
  have HIn2:Hid (zbf L (zbJ r)):=zqh ⟨l2,fun p hp n hn=>(by
   obtain ⟨x,hx,rfl⟩:=List.mem_map.1 hp
   exact l3 x hx n hn),by simp[zbJ];exact hrl⟩
  have HHo:=zqh l5
  clear hans l1 l2 l3 l4 l5 l6 hr5 hrl m2 m5 m6
  go_wp2_with fail
  refine HAns.out.mono ?_
  rintro e w8 ⟨b8,rfl,k1,k2⟩
  have K1:=zqh (k1.low (base':=w.heap.size) HB7.out.size)
  have HB8:=zqh (HB7.out.trans (k2.mono HB7.out.size))
  clear k1 k2
  go_wp2_with fail
  have hlf:(zbJ r).length=r.length:=by simp[zbJ]
  refine yD (v:=.tuple #[.slice (some ⟨b8,0,none⟩) r.length r.length,.int .i64 0]) (by simp[results,Tryz.results152,go_sem]) rfl ⟨some ⟨b8,0,none⟩,r.length,zbJ r,0,by rw[hlf],by rw[hlf];exact K1.out,HIn2.out,Or.inl ⟨rfl,HHo.out⟩,HB8.out⟩
end

section
open Go.RowKit
theorem zsN (f:Fm) (p:List Int->Bool) (A:Option Addr) (n c:Nat) (w:World) (h:zcF w (.slice A n c) f)
  (hcall:∀w',Below w.heap.size w w'->∀l A n c,zak w' (.slice A n c) l->l∈f->Calls Tryz.prog 184 #[.slice A n c] w' fun e w''=>e=.returned (.bool (p l))/\Below w'.heap.size w' w'') :
  Calls Tryz.prog 102 #[.slice A n c,.func (.func 184) #[] #[]] w fun e w' =>
   ∃r:Int,e=.returned (.int .i64 r)/\((r=-1/\∀l∈f,p l=false)\/∃k:Nat,k<f.length/\r=k/\p (za5 f k)=true/\∀j,j<k->p (za5 f j)=false)/\Below w.heap.size w w':=by
 have HI:=zqh h
 have hm:=h.max
 obtain rfl:=h.len
 have HC:=zqh hcall
 have eg:∀args w,(callFunc 184 args).run Tryz.prog w=.ok (.enter 184 args) w:=enters_of Tryz.func184 (by kernel_rfl) rfl
 clear h hcall
 go_enter Tryz.func102,Tryz.ntmps102
 go_wp2_with fail
 go_loopw [8] (fun v wr=>∃i:Nat,i<=f.length/\v=.int .i64 i/\Hid (Below w.heap.size w wr)/\Hid (∀j,j<i->p (za5 f j)=false)) (fun v _=>f.length-(intOf v).toNat)
 case atStart=>exact ⟨0,qK _,rfl,zqh (qT _ _),zqh (fun j hj=>absurd hj (jD _))⟩
 case round =>
  obtain ⟨i,hi,rfl,HB,HN⟩:=hrel
  by_cases hlt:i<f.length
  ·have h1:(0:Int)<=(i:Int):=by omega
   have h2:(i:Int)<(f.length:Int):=by omega
   obtain ⟨b,off,A2,c2,rfl,_,q1,hp⟩:=(HI.out.next HB.out).at i hlt
   have hcl:=HC.out wr HB.out (za5 f i) A2 _ c2 hp (by rw[zaz hlt];exact qG hlt)
   obtain ⟨r,hr⟩:∃r,p (za5 f i)=r:=⟨_,rfl⟩
   rw[hr] at hcl
   have HCl:=zqh hcl
   have HR:=zqh hr
   clear hcl hr hp
   cases r
   ·go_wp2_with fail
    refine HCl.out.mono ?_
    rintro e w3 ⟨rfl,hb3⟩
    have HB3:=zqh (HB.out.trans (hb3.mono HB.out.size))
    clear hb3
    go_wp2_with fail
    refine ⟨⟨i+1,by omega,by go_num,HB3,zqh (fun j hj=>?_)⟩,by simp[intOf];omega⟩
    by_cases e:j=i
    ·rw[e];exact HR.out
    ·exact HN.out j (by omega)
   ·go_wp2_with fail
    refine HCl.out.mono ?_
    rintro e w3 ⟨rfl,hb3⟩
    have HB3:=zqh (HB.out.trans (hb3.mono HB.out.size))
    clear hb3
    go_wp2_with fail
    go_ret
    exact ⟨_,rfl,.inr ⟨i,hlt,rfl,HR.out,HN.out⟩,HB3.out⟩
  ·obtain rfl:i=f.length:=by omega
   go_wp2_with fail
   go_ret
   refine ⟨_,rfl,.inl ⟨rfl,fun l hl=>?_⟩,HB.out⟩
   obtain ⟨j,hj,rfl⟩:=List.mem_iff_getElem.1 hl
   have:=HN.out j hj
   rwa [zaz hj] at this
theorem zsO (f:Fm) (p:List Int->Bool) (bx:Value) (A:Option Addr) (n c:Nat) (w:World) (h:zcF w (.slice A n c) f)
  (hcall:∀w',Below w.heap.size w w'->∀l A n c,zak w' (.slice A n c) l->l∈f->Calls Tryz.prog 69 #[.slice A n c,bx] w' fun e w''=>e=.returned (.bool (p l))/\Below w'.heap.size w' w'') :
  Calls Tryz.prog 102 #[.slice A n c,.func (.func 69) #[] #[bx]] w fun e w' =>
   ∃r:Int,e=.returned (.int .i64 r)/\((r=-1/\∀l∈f,p l=false)\/∃k:Nat,k<f.length/\r=k/\p (za5 f k)=true/\∀j,j<k->p (za5 f j)=false)/\Below w.heap.size w w':=by
 have HI:=zqh h
 have hm:=h.max
 obtain rfl:=h.len
 have HC:=zqh hcall
 have eg:∀args w,(callFunc 69 args).run Tryz.prog w=.ok (.enter 69 args) w:=enters_of Tryz.func69 (by kernel_rfl) rfl
 clear h hcall
 go_enter Tryz.func102,Tryz.ntmps102
 go_wp2_with fail
 go_loopw [8] (fun v wr=>∃i:Nat,i<=f.length/\v=.int .i64 i/\Hid (Below w.heap.size w wr)/\Hid (∀j,j<i->p (za5 f j)=false)) (fun v _=>f.length-(intOf v).toNat)
 case atStart=>exact ⟨0,qK _,rfl,zqh (qT _ _),zqh (fun j hj=>absurd hj (jD _))⟩
 case round =>
  obtain ⟨i,hi,rfl,HB,HN⟩:=hrel
  by_cases hlt:i<f.length
  ·have h1:(0:Int)<=(i:Int):=by omega
   have h2:(i:Int)<(f.length:Int):=by omega
   obtain ⟨b,off,A2,c2,rfl,_,q1,hp⟩:=(HI.out.next HB.out).at i hlt
   have hcl:=HC.out wr HB.out (za5 f i) A2 _ c2 hp (by rw[zaz hlt];exact qG hlt)
   obtain ⟨r,hr⟩:∃r,p (za5 f i)=r:=⟨_,rfl⟩
   rw[hr] at hcl
   have HCl:=zqh hcl
   have HR:=zqh hr
   clear hcl hr hp
   cases r
   ·go_wp2_with fail
    refine HCl.out.mono ?_
    rintro e w3 ⟨rfl,hb3⟩
    have HB3:=zqh (HB.out.trans (hb3.mono HB.out.size))
    clear hb3
    go_wp2_with fail
    refine ⟨⟨i+1,by omega,by go_num,HB3,zqh (fun j hj=>?_)⟩,by simp[intOf];omega⟩
    by_cases e:j=i
    ·rw[e];exact HR.out
    ·exact HN.out j (by omega)
   ·go_wp2_with fail
    refine HCl.out.mono ?_
    rintro e w3 ⟨rfl,hb3⟩
    have HB3:=zqh (HB.out.trans (hb3.mono HB.out.size))
    clear hb3
    go_wp2_with fail
    go_ret
    exact ⟨_,rfl,.inr ⟨i,hlt,rfl,HR.out,HN.out⟩,HB3.out⟩
  ·obtain rfl:i=f.length:=by omega
   go_wp2_with fail
   go_ret
   refine ⟨_,rfl,.inl ⟨rfl,fun l hl=>?_⟩,HB.out⟩
   obtain ⟨j,hj,rfl⟩:=List.mem_iff_getElem.1 hl
   have:=HN.out j hj
   rwa [zaz hj] at this
end

section
open Go.RowKit
theorem zuk (f:Fm) (p:List Int->Bool) (bx:Value) (A:Option Addr) (n c:Nat) (w:World) (h:zcF w (.slice A n c) f)
  (hcall:∀w',Below w.heap.size w w'->∀l A n c,zak w' (.slice A n c) l->l∈f->Calls Tryz.prog 69 #[.slice A n c,bx] w' fun e w''=>e=.returned (.bool (p l))/\Below w'.heap.size w' w'') :
  Calls Tryz.prog 66 #[.slice A n c,.func (.func 69) #[] #[bx]] w fun e w'=>e=.returned (.bool (f.any p))/\Below w.heap.size w w':=by
 have HI:=zqh (zsO f p bx A n c w h hcall)
 clear h hcall
 go_enter Tryz.func66,Tryz.ntmps66
 go_wp2_with fail
 refine HI.out.mono ?_
 rintro e w1 ⟨r,rfl,hr,hb⟩
 have HB:=zqh hb
 clear hb
 rcases hr with ⟨rfl,h0⟩ | ⟨k,hk,rfl,h1,_⟩
 ·have HE:Hid (f.any p=false):=zqh (by rw[List.any_eq_false];intro l hl;rw[h0 l hl];simp)
  clear h0
  go_wp2_with fail
  go_ret
  exact ⟨by rw[HE.out];rfl,HB.out⟩
 ·have HE:Hid (f.any p=true):=zqh (by rw[jI];exact ⟨_,qG hk,by rw[<-zaz hk];exact h1⟩)
  have h2:(k:Int)≥0:=by omega
  clear h1
  go_wp2_with fail
  go_ret
  exact ⟨by rw[HE.out];rfl,HB.out⟩
end

section
open Go.RowKit
theorem zqp {w:World} {b off n c:Nat} {l:List Int} (h:zak w (.slice (some ⟨b,off,none⟩) n c) l) {i:Nat} (hi:i<l.length):zak w (.slice (some ⟨b,off+i,none⟩) 1 (c-i)) [zbi l i]:=by
 obtain ⟨A',c',e,h2,h3,h4,h5⟩:=h
 injection e with e1 _ e3
 subst e1 e3
 obtain ⟨b',off',e,hb,r⟩:=h5 (by omega)
 injection e with e
 injection e with e1 e2
 subst e1 e2
 refine ⟨_,c-i,rfl,by simp;omega,by omega,fun x hx=>?_,fun _=>⟨b,off+i,rfl,hb,fun j hj=>?_⟩⟩
 ·rw[List.mem_singleton.1 hx,zay hi];exact h4 _ (qG hi)
 ·obtain rfl:j=0:=by simpa using hj
  exact r i hi
theorem zqq (l:List Int) (A:Option Addr) (n c:Nat) (w:World) (h:zak w (.slice A n c) l) (hn:l.length<=1000000) (h0:∀x∈l,0<=x) :
  Calls Tryz.prog 186 #[.slice A n c] w fun e w'=>∃v ps,e=.returned v/\Pts w' w.heap.size v ps/\(∀x∈ps,zbB w' (fun b=>w.heap.size<=b) x)/\ps.map (·.l)=l.map (fun x=>[x])/\Below w.heap.size w w':=by
 have HI:=zqh h
 have hm:=h.max
 have hcl:l.length<=c/\c<=9223372036854775807:=by
  obtain ⟨_,_,e,r1,r2,_⟩:=h
  injection e with _ _ e3
  subst e3
  exact ⟨r1,r2⟩
 obtain ⟨hc1,hc2⟩:=hcl
 obtain rfl:=h.len
 have H0:=zqh h0
 have hmk:=zfQ l.length (by omega)
 have hR0:=zfR w l.length
 have hB0:Below w.heap.size w (w.alloc (.cells (madeCells zaV (l.length*2)) 171)):=zqb
 clear h h0
 go_enter Tryz.func186,Tryz.ntmps186
 go_wp2_with fail
 clear hmk
 generalize w.alloc (.cells (madeCells zaV (l.length*2)) 171)=W at hB0 hR0 ⊢
 go_loopw [10] (fun v wr=>∃(i:Nat),i<=l.length/\v=.int .i64 i/\Hid (Below w.heap.size w wr)/\Hid (∃ps:List Pt,RowF wr w.heap.size l.length (fun j=>ps[j]?)/\(∀x∈ps,zbB wr (fun b=>w.heap.size<=b) x)/\ps.map (·.l)=(l.take i).map (fun x=>[x]))) (fun v _=>l.length-(intOf v).toNat)
 case atStart=>exact ⟨0,qK _,rfl,zqh hB0,zqh ⟨[],hR0.weaken (fun j x hx=>by simp at hx),(fun x hx=>by cases hx),rfl⟩⟩
 case round =>
  obtain ⟨i,hi,rfl,HB,HP⟩:=hrel
  by_cases hlt:i<l.length
  ·have h1:(0:Int)<=(i:Int):=by omega
   have h2:(i:Int)<(l.length:Int):=by omega
   have h3:(i:Int)+1<=(l.length:Int):=by omega
   have h4:(i:Int)+1<=(c:Int):=by omega
   have h5:¬(c=i):=by omega
   obtain ⟨b,off,rfl,hbl,_⟩:=HI.out.at i hlt
   have HO:=zqh (zqp HI.out hlt)
   have htk:=zqh (zct l i hlt)
   have hx0:Hid (∀x∈[zbi l i],0<=x):=zqh (fun x hx=>by rw[List.mem_singleton.1 hx,zay hlt];exact H0.out _ (qG hlt))
   go_wp2_with fail
   refine (zfP [zbi l i] (some ⟨b,off+i,none⟩) 1 (c-i) wr (HO.out.next HB.out) hx0.out).mono ?_
   rintro e w3 ⟨m,rfl,hmk,hb3⟩
   have HM:=zqh hmk
   have HB3:=zqh hb3
   have HB4:=zqh (HB.out.trans (hb3.mono HB.out.size))
   obtain ⟨ps,a1,a2,a3⟩:=HP.out
   have hl:ps.length=i:=by rw[<-qS (f:=(·.l)),a3,qS,jR];omega
   have a1':=zqh (a1.next hb3)
   obtain ⟨u0,u1,c0,c1⟩:=a1'.out.there hlt
   have f0:=a1'.out.free (i*2)
   have f1:=a1'.out.free (i*2+1)
   have A2':=zqh a2
   have A3:=zqh a3
   have HL:=zqh hl
   clear hmk hb3 a1 a2 a3 hl
   go_wp2_with fail
   have hx:zbB w (fun b=>w.heap.size<=b) ⟨.slice (some ⟨b,off+i,none⟩) 1 (c-i),m,[zbi l i]⟩:=zak.pt (l:=[zbi l i]) HO.out (kR _ _) hx0.out HM.out (fun b hb h=>by omega)
   have hg:=zdS w3 w.heap.size (i*2) (i*2+1) (.slice (some ⟨b,off+i,none⟩) 1 (c-i)) (.int .u64 m)
   have hl:=HL.out
   refine ⟨⟨i+1,by omega,by go_num,zqh ?_,zqh ⟨ps++[⟨.slice (some ⟨b,off+i,none⟩) 1 (c-i),m,[zbi l i]⟩],?_,?_,?_⟩⟩,by simp[intOf];omega⟩
   ·exact (HB4.out.setCell (p:=⟨w.heap.size,i*2,none⟩) zqn _).setCell (p:=⟨w.heap.size,i*2+1,none⟩) zqn _
   ·exact (a1'.out.put hlt ⟨.slice (some ⟨b,off+i,none⟩) 1 (c-i),m,[zbi l i]⟩).weaken (zkf hl _)
   ·intro x hx'
    rcases List.mem_append.1 hx' with h | h
    ·exact ((A2'.out x h).below HB3.out).grown hg (fun k e=>by injection e with e;subst e;exact qL _)
    ·rw[List.mem_singleton.1 h]
     exact (hx.below HB4.out).grown hg (fun k e=>by injection e with e;subst e;exact qL _)
   ·rw[jE,A3.out,htk.out,jE,<-zay hlt];rfl
  ·obtain rfl:i=l.length:=by omega
   go_wp2_with fail
   go_ret
   obtain ⟨ps,a1,a2,a3⟩:=HP.out
   rw[qQ] at a3
   have hl:ps.length=l.length:=by rw[<-qS (f:=(·.l)),a3,qS]
   refine ⟨_,ps,rfl,?_,a2,a3,HB.out⟩
   have:=a1.own ps (fun j h=>qI h) (by omega) (by unfold maxLen;omega) zqn
   rwa [hl] at this
end

section
open Go.RowKit
def zcE (f:Fm) (on:List Int):Bool:=f.all (fun p=>p.any (fun x=>ziw on x))
theorem zoc (f g:Fm) (on:List Int):zcE (f++g) on=(zcE f on&&zcE g on):=by unfold zcE;rw[xT]
theorem zod (p:List Int) (on:List Int):zcE [p] on=p.any (fun x=>ziw on x):=by unfold zcE;simp
theorem zkj (l on:List Int):zap (l.map (fun x=>[x])) on=l.any (fun x=>ziw on x):=by
 rw[qZ,zbE,jI]
 constructor
 ·rintro ⟨p,hp,e⟩
  obtain ⟨x,hx,rfl⟩:=List.mem_map.1 hp
  exact ⟨x,hx,zfD.2 (e x (by simp))⟩
 ·rintro ⟨x,hx,e⟩
  exact ⟨[x],List.mem_map.2 ⟨x,hx,rfl⟩,fun y hy=>by rw[List.mem_singleton.1 hy];exact zfD.1 e⟩
theorem zee {f:Fm} (h:∀p∈f,p.length=1) (on:List Int):zap [f.flatten] on=zcE f on:=by
 rw[ze2,qZ,zdp]
 unfold zcE
 rw[jJ]
 constructor
 ·intro e p hp
  match p,h p hp with
  | [x],_=>simpa using zfD.2 (e x (List.mem_flatten.2 ⟨[x],hp,by simp⟩))
 ·intro e x hx
  obtain ⟨p,hp,hx⟩:=List.mem_flatten.1 hx
  have h1:=h p hp
  have h2:=e p hp
  match p,h1 with
  | [y],_ =>
   rw[List.mem_singleton.1 hx]
   exact zfD.1 (by simpa using h2)
theorem zis {f:Fm} (hs:f.Pairwise (fun p q=>za7 p q=true)) (h:∀p∈f,p.length=1):Up f.flatten:=by
 induction f with
 | nil=>exact List.Pairwise.nil
 | cons p f ih =>
  rw[List.pairwise_cons] at hs
  have ih':=ih hs.2 (fun q hq=>h q (by simp[hq]))
  match p,h p (by simp),hs.1 with
  | [x],_,h1 =>
   rw[List.flatten_cons]
   show Up (x::f.flatten)
   unfold Up
   rw[List.pairwise_cons]
   refine ⟨fun y hy=>?_,ih'⟩
   obtain ⟨q,hq,hy⟩:=List.mem_flatten.1 hy
   have h2:=h1 q hq
   match q,h q (by simp[hq]) with
   | [z],_ =>
    rw[List.mem_singleton.1 hy]
    unfold za7 at h2
    simp[zhg] at h2
    exact h2.2
theorem zeI {p:List Int} (hu:Up p) (h0:∀x∈p,0<=x):Fmd [p] :=
 ⟨fun q hq=>by rw[List.mem_singleton.1 hq];exact ⟨hu,h0⟩,kR _ _,fun q hq r hr _=>by rw[List.mem_singleton.1 hq,List.mem_singleton.1 hr]⟩
end

section
open Go.RowKit
theorem zul (l:List Int) (A:Option Addr) (n c:Nat) (w:World) (h:zak w (.slice A n c) l):Calls Tryz.prog 184 #[.slice A n c] w fun e w'=>e=.returned (.bool (!decide (l.length=1)))/\Below w.heap.size w w':=by
 have hm:=h.max
 obtain rfl:=h.len
 clear h
 go_enter Tryz.func184,Tryz.ntmps184
 go_wp2_with fail
 go_ret
 refine ⟨?_,qT _ _⟩
 by_cases h1:l.length=1
 ·simp[h1]
 ·have h2:¬((l.length:Int)=1):=by omega
  simp[h1,h2]
theorem zcF.take {w:World} {A:Option Addr} {n c:Nat} {f:Fm} (h:zcF w (.slice A n c) f) (k:Nat) (hk:k<=f.length):zcF w (.slice A k c) (f.take k):=by
 obtain ⟨A',c',e,h2,h3,h5⟩:=h
 injection e with e1 _ e3
 subst e1 e3
 have hl:(f.take k).length=k:=by rw[jR];omega
 refine ⟨A,c,by rw[hl],by omega,h3,fun h0=>?_⟩
 rw[hl] at h0
 obtain ⟨b,off,e,hb,r⟩:=h5 (by omega)
 refine ⟨b,off,e,hb,fun j hj=>?_⟩
 rw[hl] at hj
 obtain ⟨u,hu,hi⟩:=r j (by omega)
 refine ⟨u,hu,?_⟩
 rw[show za5 (f.take k) j=za5 f j by unfold za5;rw[jV hj]]
 exact hi
theorem zcF.drop {w:World} {b off n c:Nat} {f:Fm} (h:zcF w (.slice (some ⟨b,off,none⟩) n c) f) (k:Nat) (hk:k<=n):zcF w (.slice (if c=k then some ⟨b,off,none⟩ else some ⟨b,off+k,none⟩) (n-k) (c-k)) (f.drop k):=by
 obtain rfl:=h.len
 obtain ⟨A',c',e,h2,h3,h5⟩:=h
 injection e with e1 _ e3
 subst e1 e3
 have hl:(f.drop k).length=f.length-k:=List.length_drop
 refine ⟨_,c-k,by rw[hl],by omega,by omega,fun h0=>?_⟩
 rw[hl] at h0
 obtain ⟨b',off',e,hb,r⟩:=h5 (by omega)
 injection e with e
 injection e with e1 e2
 subst e1 e2
 rw[if_neg (by omega)]
 refine ⟨b,off+k,rfl,hb,fun j hj=>?_⟩
 rw[hl] at hj
 obtain ⟨u,hu,hi⟩:=r (k+j) (by omega)
 rw[<-Nat.add_assoc] at hu
 refine ⟨u,hu,?_⟩
 rw[show za5 (f.drop k) j=za5 f (k+j) by unfold za5;rw[List.getElem?_drop]]
 exact hi
theorem zit {w:World} {v:Value} {m:Nat} {l:List Int} (h:zbB w (fun _=>False) ⟨v,m,l⟩):zdC (w.alloc (.cells #[v,.int .u64 m] 171)) (.slice (some ⟨w.heap.size,0,none⟩) 1 1) [⟨v,m,l⟩]:=by
 have hb:Below w.heap.size w (w.alloc (.cells #[v,.int .u64 m] 171)):=zqb
 refine ⟨⟨_,1,rfl,qL _,by omega,fun _=>⟨w.heap.size,1,rfl,qL _,_,At.new _ _ _,rfl,fun j x hx=>?_⟩⟩,fun x hx=>by rw[List.mem_singleton.1 hx];exact h.below hb⟩
 dsimp only at hx
 match j,hx with
 | 0,hx=>injection hx with hx;subst hx;exact ⟨by omega,rfl,rfl⟩
 | j+1,hx=>simp at hx
end
end Go.Proofs.YtdmodhnhldbpnaaGreat
