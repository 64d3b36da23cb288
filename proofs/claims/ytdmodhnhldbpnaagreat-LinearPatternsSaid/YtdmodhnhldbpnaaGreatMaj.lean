/- Joined: NormEasy, Lists, Tab, Bits, Least, Count, NormEasy2. -/
import Derived.Test.YtdmodhnhldbpnaaGreatMaf
import Derived.Test.YtdmodhnhldbpnaaGreatMai
import Derived.Test.YtdmodhnhldbpnaaGreatMaa
import Derived.Lib.TrailingZeros
import Derived.Test.YtdmodhnhldbpnaaGreatProg
import Derived.LoopN
import Derived.Test.YtdmodhnhldbpnaaGreatMac
import Derived.Test.YtdmodhnhldbpnaaGreatAid
/- The easy ones of norm: put, None, Empty, Look, Not. -/
set_option linter.unusedSimpArgs false
set_option linter.unusedVariables false
set_option maxHeartbeats 4000000
set_option maxRecDepth 100000
namespace Go.Proofs.YtdmodhnhldbpnaaGreat
section
open Go.RowKit
section
variable {AA:World->Value->List Nd->(Nat->Prop)->Prop}
theorem zey.mono {w:World} {a:Value} {ns:List Nd} {F:Nat->Prop} {R R':List Nd->Int->Prop} {e:Ending} {w':World} (g:zey AA w a ns F R e w') (h:∀more r,R more r->R' more r):zey AA w a ns F R' e w':=by
 obtain ⟨r,more,F',g0,g1,g2,g3,g4,g5,g6⟩:=g
 exact ⟨r,more,F',g0,g1,g2,g3,g4,g5,h more r g6⟩
theorem zcb (k a b:Int) (neg:Bool) (hk:I64 k) (ha:I64 a) (hb:I64 b):zbQ (Nd.mk k zbn a b neg):=⟨hk,⟨by unfold U64;exact xV _,by unfold U64;exact xV _,by unfold U64;exact xV _,by unfold U64;exact xV _⟩,ha,hb⟩
def zvI (ns:List Nd) (x:Nd) (more:List Nd) (r:Int):Prop:=zaQ (ns++more) r.toNat=x/\more.length<=1/\(zac ns r->more=[])
def zqM (ns:List Nd) (x:Nd):Int:=if x.right ns.length then zdJ ns x else -1
theorem zni (S:ArenaMid AA) {w:World} {a:Value} {ns:List Nd} {F:Nat->Prop} (x:Nd) (h:AA w a ns F) (hx:zbQ x) (hroom:ns.length<20000) :
  Calls Tryz.prog 57 #[a,.agg x.cs.toArray] w fun e w'=>∃F',e=.returned (.int .i64 (zqM ns x))/\AA w' a (zdI ns x) F'/\(∀b,F' b->F b\/w.heap.size<=b)/\OffF F w w':=by
 have HB:Hid (Below w.heap.size w (w.alloc (.cells x.cs.toArray 61))):=zqh (zqb)
 obtain ⟨c0,c1,c2,c3,c4,c5,c6,c7⟩:=Nd.cells (At.new w 61 x.cs.toArray)
 have HP:Hid (Calls Tryz.prog 23 #[a,.agg #[.int .i64 x.kind,.int .u64 x.set.w0,.int .u64 x.set.w1,.int .u64 x.set.w2,.int .u64 x.set.w3,.int .i64 x.a,.int .i64 x.b,.bool x.neg]] (w.alloc (.cells x.cs.toArray 61)) fun e w'=>∃F',e=.returned (.tuple #[.int .i64 (zdJ ns x),.int .i64 (zly ns x)])/\AA w' a (zdI ns x) F'/\(∀b,F' b->F b\/(w.alloc (.cells x.cs.toArray 61)).heap.size<=b)/\OffF F (w.alloc (.cells x.cs.toArray 61)) w'):=zqh (S.put x (S.next h HB.out) hx hroom)
 have HG:Hid (∀w1 F',AA w1 a (zdI ns x) F'->(∀b,F' b->F b\/(w.alloc (.cells x.cs.toArray 61)).heap.size<=b)->OffF F (w.alloc (.cells x.cs.toArray 61)) w1->∃F',AA w1 a (zdI ns x) F'/\(∀b,F' b->F b\/w.heap.size<=b)/\OffF F w w1):=zqh (fun w1 F' h1 h2 h3=>⟨F',h1,fun b q=>by
  rcases h2 b q with q | q
  ·exact Or.inl q
  ·exact Or.inr (qH HB.out.size q),(OffF.of HB.out).off h3 (fun b q=>Or.inl q)⟩)
 clear h hx
 cases hr:x.right ns.length
 ·have HE:Hid (zly ns x=1):=zqh (by unfold zly;rw[if_neg (by rw[hr];simp)])
  have HR:Hid (zqM ns x=-1):=zqh (by unfold zqM;rw[if_neg (by rw[hr];simp)])
  clear hr
  go_enter Tryz.func57,Tryz.ntmps57
  go_wp2_with fail
  refine HP.out.mono ?_
  rintro e w1 ⟨F',rfl,hA1,hF1,ho1⟩
  rw[HE.out]
  have HH:=zqh (HG.out w1 F' hA1 hF1 ho1)
  clear hA1 hF1 ho1
  go_wp2_with fail
  go_ret
  obtain ⟨F2,q1,q2,q3⟩:=HH.out
  exact ⟨F2,by rw[HR.out];rfl,q1,q2,q3⟩
 ·have HE:Hid (zly ns x=0):=zqh (by unfold zly;rw[if_pos hr])
  have HR:Hid (zqM ns x=zdJ ns x):=zqh (by unfold zqM;rw[if_pos hr])
  clear hr
  go_enter Tryz.func57,Tryz.ntmps57
  go_wp2_with fail
  refine HP.out.mono ?_
  rintro e w1 ⟨F',rfl,hA1,hF1,ho1⟩
  rw[HE.out]
  have HH:=zqh (HG.out w1 F' hA1 hF1 ho1)
  clear hA1 hF1 ho1
  go_wp2_with fail
  go_ret
  obtain ⟨F2,q1,q2,q3⟩:=HH.out
  exact ⟨F2,by rw[HR.out];rfl,q1,q2,q3⟩
theorem zqN (S:ArenaMid AA) {w:World} {a:Value} {ns:List Nd} {F:Nat->Prop} (x:Nd) (h:AA w a ns F) (hx:zbQ x) (hr:x.right ns.length=false) :
  Calls Tryz.prog 57 #[a,.agg x.cs.toArray] w fun e w'=>e=.returned (.int .i64 (-1))/\Below w.heap.size w w':=by
 have HB:Hid (Below w.heap.size w (w.alloc (.cells x.cs.toArray 61))):=zqh (zqb)
 obtain ⟨c0,c1,c2,c3,c4,c5,c6,c7⟩:=Nd.cells (At.new w 61 x.cs.toArray)
 have HP:Hid (Calls Tryz.prog 23 #[a,.agg #[.int .i64 x.kind,.int .u64 x.set.w0,.int .u64 x.set.w1,.int .u64 x.set.w2,.int .u64 x.set.w3,.int .i64 x.a,.int .i64 x.b,.bool x.neg]] (w.alloc (.cells x.cs.toArray 61)) fun e w'=>e=.returned (.tuple #[.int .i64 0,.int .i64 1])/\Below (w.alloc (.cells x.cs.toArray 61)).heap.size (w.alloc (.cells x.cs.toArray 61)) w'):=zqh (S.putNo x (S.next h HB.out) hx hr)
 clear h hx hr
 go_enter Tryz.func57,Tryz.ntmps57
 go_wp2_with fail
 refine HP.out.mono ?_
 rintro e w1 ⟨rfl,hb⟩
 have HB1:=zqh (HB.out.trans (hb.mono HB.out.size))
 clear hb
 go_wp2_with fail
 go_ret
 exact ⟨rfl,HB1.out⟩
theorem zvJ (S:ArenaMid AA) {w:World} {a:Value} {ns:List Nd} {F:Nat->Prop} (x:Nd) (h:AA w a ns F) (hc:Canon ns) (hx:zbQ x) (hr:x.right ns.length=true) (hl:zuO ns x) (hroom:ns.length<20000) :
  Calls Tryz.prog 57 #[a,.agg x.cs.toArray] w (zey AA w a ns F (zvI ns x)):=by
 refine (zni S x h hx hroom).mono ?_
 rintro e w1 ⟨F',rfl,hA1,hF1,ho1⟩
 obtain ⟨k1,k2,k3,⟨more,km,kl⟩,k5⟩:=znh hc hr hx hl
 rw[km] at hA1 k1 k2 k3
 refine ⟨_,more,F',by unfold zqM;rw[if_pos hr],hA1,hF1,ho1,k1,k2,k3,kl,fun q=>?_⟩
 have:=k5 q
 rw[km] at this
 exact List.append_right_eq_self.1 this
theorem znj {ns:List Nd} {k:Int} {neg:Bool} {a b:Int} {s:St} (h2:k≠2) (h3:k≠3) (h4:k≠4) (h5:k≠5) (h6:k≠6) (h7:k≠7):zuO ns ⟨k,s,a,b,neg⟩:=
 ⟨fun q=>absurd q h3,fun k' hk' q=>by dsimp only at q;omega,fun q=>absurd q h6,fun q=>absurd q h7,fun q=>absurd q h2⟩
theorem ztu (S:ArenaMid AA) {w:World} {a:Value} {ns:List Nd} {F:Nat->Prop} (h:AA w a ns F) (hc:Canon ns) (hroom:ns.length+4<=20000):Calls Tryz.prog 22 #[a] w (zey AA w a ns F fun more r=>kd (ns++more) r=1/\more.length<=1/\(zac ns r->more=[])):=by
 have HP:=zqh (zvJ S ⟨1,zbn,0,0,false⟩ h hc (zcb _ _ _ _ (by unfold I64;omega) (by unfold I64;omega) (by unfold I64;omega)) (by unfold Nd.right;rw[if_pos (Or.inr rfl)];exact Nd.eqb_self _) (znj (by decide) (by decide) (by decide) (by decide) (by decide) (by decide)) (by omega))
 clear h hc
 go_enter Tryz.func22,Tryz.ntmps22
 go_wp2_with fail
 refine HP.out.mono ?_
 rintro e w1 g
 obtain ⟨r,_,_,rfl,_⟩:=id g
 have HG:=zqh (g.mono (R':=fun more r=>kd (ns++more) r=1/\more.length<=1/\(zac ns r->more=[])) (fun more r q=>⟨by unfold kd;rw[q.1],q.2⟩))
 clear g
 go_wp2_with fail
 go_ret
 exact HG.out
theorem zhz {ns:List Nd} {k x:Int} (hk:k=6\/k=7) (hx:zac ns x):(Nd.mk k zbn x 0 false).right ns.length=true:=by
 unfold zac at hx
 unfold Nd.right aIn
 rw[if_neg (by dsimp only;omega),if_neg (by dsimp only;omega),if_neg (by dsimp only;omega),if_pos (by dsimp only;omega),Nd.eqb_self]
 dsimp only
 rw[qD hx.1,qD hx.2];rfl
end
end

section
open Go.RowKit
def ws (w:Nat):List Nat:=(List.range 64).filter (fun i=>w.testBit i)
def St.listTo (s:St) (i:Nat):List Nat:=(List.range (64*i)).filter (fun x=>s.has x)
def St.list (s:St):List Nat:=(List.range 256).filter (fun x=>s.has x)
theorem St.listTo_zero (s:St):s.listTo 0=[]:=by simp[St.listTo]
theorem St.listTo_four (s:St):s.listTo 4=s.list:=rfl
theorem St.listTo_succ (s:St) (i:Nat):s.listTo (i+1)=s.listTo i++(ws (s.word i)).map (64*i+·):=by
 unfold St.listTo ws
 rw[show 64*(i+1)=64*i+64 from by omega,List.range_add,kY,List.filter_map]
 congr 2
 apply List.filter_congr
 intro x hx
 have hx':x<64:=by simpa using hx
 unfold St.has
 simp only[Function.comp_apply]
 rw[show (64*i+x) / 64=i from by omega,show (64*i+x) % 64=x from by omega]
theorem ze6 (w:Nat):(ws w).length<=64:=by
 have:=xA (fun i=>w.testBit i) (List.range 64)
 simpa [ws] using this
def rep (v:Nat):Nat->Nat
 | 0=>0
 | n+1=>v+256*rep v n
theorem zc8 (u v y m:Nat) (hu:u<256) (hv:v<256):(u+256*y) &&& (v+256*m)=(u &&& v)+256*(y &&& m):=by
 have hl:u &&& v<2 ^ 8:=Nat.and_lt_two_pow _ hv
 apply Nat.eq_of_testBit_eq
 intro i
 rw[Nat.testBit_and,Nat.add_comm u,Nat.add_comm v,Nat.add_comm (u &&& v),show (256:Nat)=2 ^ 8 from rfl,kA _ hu,kA _ hv,kA _ hl]
 split<;>rw[Nat.testBit_and]
def s1 (n x:Nat):Nat:=((x / 2) &&& rep 85 n)+(x &&& rep 85 n)
def s2 (n x:Nat):Nat:=((x / 4) &&& rep 51 n)+(x &&& rep 51 n)
def s3 (n x:Nat):Nat:=((x / 16)+x) &&& rep 15 n
def f1 (c:Nat):Nat:=(c / 2 &&& 85)+(c &&& 85)
def f2 (c:Nat):Nat:=(c / 4 &&& 51)+(c &&& 51)
def f3 (c:Nat):Nat:=(c / 16+c) &&& 15
theorem zvK:∀c,c<256->∀e,e<2->(c / 2+128*e) &&& 85=c / 2 &&& 85:=by decide +kernel
theorem zvL:∀c,c<256->∀e,e<4->(c / 4+64*e) &&& 51=c / 4 &&& 51:=by decide +kernel
theorem zuP:∀c,c<256->f1 c<256:=by decide +kernel
theorem zuQ:∀c,c<256->f2 (f1 c)<=68/\f2 (f1 c) % 16<=4:=by decide +kernel
theorem zuR:∀c,c<256->f3 (f2 (f1 c))=((List.range 8).filter (fun i=>c.testBit i)).length:=by decide +kernel
theorem zrJ (n c x:Nat) (hc:c<256):s1 (n+1) (c+256*x)=f1 c+256*s1 n x:=by
 unfold s1
 have e:(c+256*x) / 2=(c / 2+128*(x % 2))+256*(x / 2):=by omega
 show ((c+256*x) / 2 &&& (85+256*rep 85 n))+((c+256*x) &&& (85+256*rep 85 n))=_
 rw[e,zc8 _ _ _ _ (by omega) (by omega),zc8 _ _ _ _ hc (by omega),zvK c hc _ (by omega)]
 unfold f1
 omega
theorem zrK (n c x:Nat) (hc:c<256):s2 (n+1) (c+256*x)=f2 c+256*s2 n x:=by
 unfold s2
 have e:(c+256*x) / 4=(c / 4+64*(x % 4))+256*(x / 4):=by omega
 show ((c+256*x) / 4 &&& (51+256*rep 51 n))+((c+256*x) &&& (51+256*rep 51 n))=_
 rw[e,zc8 _ _ _ _ (by omega) (by omega),zc8 _ _ _ _ hc (by omega),zvL c hc _ (by omega)]
 unfold f2
 omega
theorem zrL (n c x:Nat) (hc:c<=68) (hx:x % 16<=4):s3 (n+1) (c+256*x)=f3 c+256*s3 n x:=by
 unfold s3
 have e:(c+256*x) / 16+(c+256*x)=(c / 16+c+16*(x % 16))+256*(x / 16+x):=by omega
 show ((c+256*x) / 16+(c+256*x)) &&& (15+256*rep 15 n)=_
 rw[e,zc8 _ _ _ _ (by omega) (by omega)]
 unfold f3
 congr 1
 rw[show (15:Nat)=2 ^ 4-1 from rfl,kJ,kJ]
 omega
def zbw (n x:Nat):Nat:=((List.range n).filter (fun i=>x.testBit i)).length
theorem zlQ (n c x:Nat) (hc:c<256):zbw (8+n) (c+256*x)=zbw 8 c+zbw n x:=by
 unfold zbw
 rw[List.range_add,kY,qF,List.filter_map,qS]
 congr 2
 ·apply List.filter_congr
  intro i hi
  have hi':i<8:=by simpa using hi
  rw[Nat.add_comm c,show (256:Nat)=2 ^ 8 from rfl,kA _ hc,if_pos hi']
 ·apply List.filter_congr
  intro i _
  simp only[Function.comp_apply]
  rw[Nat.add_comm c,show (256:Nat)=2 ^ 8 from rfl,kA _ hc,if_neg (by omega),show 8+i-8=i from by omega]
def zuS:Nat->Nat->Nat
 | 0,_=>0
 | n+1,x=>zbw 8 (x % 256)+256*zuS n (x / 256)
theorem ztv:∀(n x:Nat),s3 n (s2 n (s1 n x))=zuS n x/\s2 n (s1 n x) % 16<=4
 | 0,x=>by simp[s3,s2,rep,zuS]
 | n+1,x=>by
  obtain ⟨h1,h2⟩:=ztv n (x / 256)
  have hc:x % 256<256:=Nat.mod_lt _ (by omega)
  have e:x=x % 256+256*(x / 256):=by omega
  have e2:s2 (n+1) (s1 (n+1) x)=f2 (f1 (x % 256))+256*s2 n (s1 n (x / 256)):=by
   rw[<-zrK n _ _ (zuP _ hc),<-zrJ n _ _ hc,<-e]
  have hf:=zuQ _ hc
  rw[e2,zrL n _ _ hf.1 h2,h1,zuR _ hc]
  exact ⟨rfl,by omega⟩
theorem zlR (c:Nat):zbw 8 c<=8:=by
 have:=xA (fun i=>c.testBit i) (List.range 8)
 simpa [zbw] using this
def s4 (y:Nat):Nat:=y+y / 256
def s5 (y:Nat):Nat:=y+y / 65536
def s6 (y:Nat):Nat:=y+y / 4294967296
theorem zlS (a b c d e f g h:Nat) (ha:a<=8) (hb:b<=8) (hc:c<=8) (hd:d<=8) (he:e<=8) (hf:f<=8) (hg:g<=8) (hh:h<=8) :
  s6 (s5 (s4 (a+256*(b+256*(c+256*(d+256*(e+256*(f+256*(g+256*(h+256*0)))))))))) % 128=a+b+c+d+e+f+g+h:=by
 have e4:s4 (a+256*(b+256*(c+256*(d+256*(e+256*(f+256*(g+256*(h+256*0)))))))) =
   (a+b)+256*((b+c)+256*((c+d)+256*((d+e)+256*((e+f)+256*((f+g)+256*((g+h)+256*h)))))):=by
  unfold s4;omega
 rw[e4]
 have e5:s5 ((a+b)+256*((b+c)+256*((c+d)+256*((d+e)+256*((e+f)+256*((f+g)+256*((g+h)+256*h))))))) =
   (a+b+c+d)+256*((b+c+d+e)+256*((c+d+e+f)+256*((d+e+f+g)+256*((e+f+g+h)+256*((f+g+h)+256*((g+h)+256*h)))))):=by
  unfold s5;omega
 rw[e5]
 clear e4 e5
 have e6:((a+b+c+d)+256*((b+c+d+e)+256*((c+d+e+f)+256*((d+e+f+g)+256*((e+f+g+h)+256*((f+g+h)+256*((g+h)+256*h))))))) / 4294967296 =
   (e+f+g+h)+256*((f+g+h)+256*((g+h)+256*h)):=by omega
 unfold s6
 rw[e6]
 clear e6
 omega
theorem ztw (w:Nat):s6 (s5 (s4 (s3 8 (s2 8 (s1 8 w))))) % 128=(ws w).length:=by
 rw[(ztv 8 w).1]
 have hb:∀c,zbw 8 c<=8:=zlR
 show s6 (s5 (s4 (zbw 8 _+256*(zbw 8 _+256*(zbw 8 _+256*(zbw 8 _+256*(zbw 8 _+256*(zbw 8 _+256*(zbw 8 _+256*(zbw 8 _+256*0)))))))))) % 128=zbw 64 w
 rw[zlS _ _ _ _ _ _ _ _ (hb _) (hb _) (hb _) (hb _) (hb _) (hb _) (hb _) (hb _)]
 have hs:∀(n x:Nat),zbw (8+n) x=zbw 8 (x % 256)+zbw n (x / 256):=fun n x=>by
  rw[<-zlQ n _ _ (Nat.mod_lt _ (by omega))]
  congr 1
  omega
 have h64:zbw 64 w=zbw (8+(8+(8+(8+(8+(8+(8+(8+0)))))))) w:=rfl
 rw[h64]
 simp only[hs]
 have h0:∀x,zbw 0 x=0:=fun x=>by simp[zbw]
 rw[h0]
 omega
end

section
open Go.RowKit
end

section
open Go.RowKit
def mA:Nat:=6148914691236517205
def mB:Nat:=3689348814741910323
def mC:Nat:=1085102592571150095
theorem zuT:rep 85 8=mA:=by decide +kernel
theorem zuU:rep 51 8=mB:=by decide +kernel
theorem zuV:rep 15 8=mC:=by decide +kernel
def pa (w:Nat):Nat:=(w / 2) &&& mA
def pb (w:Nat):Nat:=w &&& mA
def pc (w:Nat):Nat:=(w / 4) &&& mB
def pd (w:Nat):Nat:=w &&& mB
def pe (w:Nat):Nat:=w / 16+w
def y1 (w:Nat):Nat:=s1 8 w
def y2 (w:Nat):Nat:=s2 8 (y1 w)
def y3 (w:Nat):Nat:=s3 8 (y2 w)
def y4 (w:Nat):Nat:=s4 (y3 w)
def y5 (w:Nat):Nat:=s5 (y4 w)
def y6 (w:Nat):Nat:=s6 (y5 w)
theorem ztx (w:Nat):y1 w=pa w+pb w:=by unfold y1 s1 pa pb;rw[zuT]
theorem zty (w:Nat):y2 w=pc (y1 w)+pd (y1 w):=by unfold y2 s2 pc pd;rw[zuU]
theorem ztz (w:Nat):y3 w=pe (y2 w) &&& mC:=by unfold y3 s3 pe;rw[zuV]
theorem zrM (w:Nat):y2 w<=7378697629483820646:=by
 have h1:pc (y1 w)<=mB:=kH
 have h2:pd (y1 w)<=mB:=kH
 rw[zty]
 unfold mB at h1 h2
 omega
theorem ztA (w:Nat):y3 w<=1085102592571150095:=by rw[ztz];exact kH
theorem ztB (w:Nat):y4 w<=2170205185142300190:=by have:=ztA w;unfold y4 s4;omega
theorem ztC (w:Nat):y5 w<=4340410370284600380:=by have:=ztB w;unfold y5 s5;omega
theorem ztD (w:Nat):y6 w<=8680820740569200760:=by have:=ztC w;unfold y6 s6;omega
theorem q_a (w:Nat) (h:U64 w):bits .and .u64 ((w:Int) / 2) 6148914691236517205=((pa w:Nat):Int):=by
 rw[show ((w:Int) / 2)=((w / 2:Nat):Int) from by omega,show (6148914691236517205:Int)=((mA:Nat):Int) from rfl]
 exact zcx _ _ (kI (Nat.div_le_self _ _) h) (by unfold U64 mA;omega)
theorem q_b (w:Nat) (h:U64 w):bits .and .u64 (w:Int) 6148914691236517205=((pb w:Nat):Int):=by
 rw[show (6148914691236517205:Int)=((mA:Nat):Int) from rfl]
 exact zcx _ _ h (by unfold U64 mA;omega)
theorem q_1 (w:Nat):IntKind.u64.wrap (((pa w:Nat):Int)+((pb w:Nat):Int))=((y1 w:Nat):Int):=by
 have h1:pa w<=mA:=kH
 have h2:pb w<=mA:=kH
 unfold mA at h1 h2
 rw[ztx,xY]
 omega
theorem zqO (w:Nat):U64 (y1 w):=by
 have h1:pa w<=mA:=kH
 have h2:pb w<=mA:=kH
 unfold mA at h1 h2
 rw[ztx]
 unfold U64
 omega
theorem q_c (w:Nat) (h:U64 w):bits .and .u64 ((w:Int) / 4) 3689348814741910323=((pc w:Nat):Int):=by
 rw[show ((w:Int) / 4)=((w / 4:Nat):Int) from by omega,show (3689348814741910323:Int)=((mB:Nat):Int) from rfl]
 exact zcx _ _ (kI (Nat.div_le_self _ _) h) (by unfold U64 mB;omega)
theorem q_d (w:Nat) (h:U64 w):bits .and .u64 (w:Int) 3689348814741910323=((pd w:Nat):Int):=by
 rw[show (3689348814741910323:Int)=((mB:Nat):Int) from rfl]
 exact zcx _ _ h (by unfold U64 mB;omega)
theorem q_2 (w:Nat):IntKind.u64.wrap (((pc (y1 w):Nat):Int)+((pd (y1 w):Nat):Int))=((y2 w:Nat):Int):=by
 have h:=zrM w
 rw[zty] at h ⊢
 rw[xY]
 omega
theorem q_e (w:Nat):IntKind.u64.wrap (((y2 w:Nat):Int) / 16+((y2 w:Nat):Int))=((pe (y2 w):Nat):Int):=by
 have h:=zrM w
 unfold pe
 rw[xY]
 omega
theorem q_3 (w:Nat):bits .and .u64 ((pe (y2 w):Nat):Int) 1085102592571150095=((y3 w:Nat):Int):=by
 have h:=zrM w
 rw[ztz,show (1085102592571150095:Int)=((mC:Nat):Int) from rfl]
 exact zcx _ _ (by unfold U64 pe;omega) (by unfold U64 mC;omega)
theorem q_4 (w:Nat):IntKind.u64.wrap (((y3 w:Nat):Int)+((y3 w:Nat):Int) / 256)=((y4 w:Nat):Int):=by
 have h:=ztA w
 unfold y4 s4
 rw[xY]
 omega
theorem q_5 (w:Nat):IntKind.u64.wrap (((y4 w:Nat):Int)+((y4 w:Nat):Int) / 65536)=((y5 w:Nat):Int):=by
 have h:=ztB w
 unfold y5 s5
 rw[xY]
 omega
theorem q_6 (w:Nat):IntKind.u64.wrap (((y5 w:Nat):Int)+((y5 w:Nat):Int) / 4294967296)=((y6 w:Nat):Int):=by
 have h:=ztC w
 unfold y6 s6
 rw[xY]
 omega
theorem q_7 (w:Nat):IntKind.i64.wrap ((y6 w:Nat):Int)=((y6 w:Nat):Int):=by
 have h:=ztD w
 rw[yY]
 omega
theorem zhA (a:Nat) (ha:a<9223372036854775808):(BitVec.ofInt 64 (a:Int)).toNat=a:=by
 rw[BitVec.ofInt_natCast,BitVec.toNat_ofNat];exact Nat.mod_eq_of_lt (by omega)
theorem q_8 (w:Nat):bits .and .i64 ((y6 w:Nat):Int) 127=(((ws w).length:Nat):Int):=by
 have h:=ztD w
 have hx:y6 w &&& 127<128:=kI kH (by omega)
 rw[<-ztw w]
 show IntKind.i64.wrap ((BitVec.ofInt 64 ((y6 w:Nat):Int) &&& BitVec.ofInt 64 ((127:Nat):Int)).toNat:Int)=((y6 w % 128:Nat):Int)
 rw[BitVec.toNat_and,zhA _ (by omega),zhA 127 (by omega),yY,show (127:Nat)=2 ^ 7-1 from rfl,kJ]
 omega
theorem ze7 (w:Nat) (hw:U64 w) (W:World) :
  Calls Tryz.prog 161 #[.int .u64 w] W fun e W'=>e=.returned (.int .i64 ((ws w).length:Nat))/\W=W':=by
 have ea:=q_a w hw
 have eb:=q_b w hw
 have e1:=q_1 w
 have ec:=q_c (y1 w) (zqO w)
 have ed:=q_d (y1 w) (zqO w)
 have e2:=q_2 w
 have ee:=q_e w
 have e3:=q_3 w
 have e4:=q_4 w
 have e5:=q_5 w
 have e6:=q_6 w
 have e7:=q_7 w
 have e8:=q_8 w
 go_enter Tryz.func161,Tryz.ntmps161
 go_wp2
 go_ret
 exact ⟨rfl,rfl⟩
end

section
open Go.RowKit
theorem St.list_is (s:St):s.list=((((ws s.w0).map (64*0+·))++(ws s.w1).map (64*1+·))++(ws s.w2).map (64*2+·))++(ws s.w3).map (64*3+·):=by
 rw[<-St.listTo_four,St.listTo_succ,St.listTo_succ,St.listTo_succ,St.listTo_succ,St.listTo_zero]
 rfl
theorem St.list_length (s:St):s.list.length=(ws s.w0).length+(ws s.w1).length+(ws s.w2).length+(ws s.w3).length:=by
 rw[St.list_is];simp;omega
theorem zvM (a b c d:Value) (w:World):(Instr.index 46 (.agg #[a,b,c,d]) (.int .i64 0)).run Tryz.prog w=.ok a w:=by kernel_rfl
theorem zvN (a b c d:Value) (w:World):(Instr.index 46 (.agg #[a,b,c,d]) (.int .i64 1)).run Tryz.prog w=.ok b w:=by kernel_rfl
theorem zvO (a b c d:Value) (w:World):(Instr.index 46 (.agg #[a,b,c,d]) (.int .i64 2)).run Tryz.prog w=.ok c w:=by kernel_rfl
theorem zvP (a b c d:Value) (w:World):(Instr.index 46 (.agg #[a,b,c,d]) (.int .i64 3)).run Tryz.prog w=.ok d w:=by kernel_rfl
end

section
open Go.RowKit
theorem zh9 (s:St) (hs:s.Ok) (w:World) :
  Calls Tryz.prog 121 #[.agg #[.int .u64 s.w0,.int .u64 s.w1,.int .u64 s.w2,.int .u64 s.w3]] w fun e w'=>e=.returned (.int .i64 (s.list.length:Nat))/\Below w.heap.size w w':=by
 have HL:=zqh s.list_length
 obtain ⟨n0,h0⟩:∃n:Nat,n=(ws s.w0).length:=⟨_,rfl⟩
 obtain ⟨n1,h1⟩:∃n:Nat,n=(ws s.w1).length:=⟨_,rfl⟩
 obtain ⟨n2,h2⟩:∃n:Nat,n=(ws s.w2).length:=⟨_,rfl⟩
 obtain ⟨n3,h3⟩:∃n:Nat,n=(ws s.w3).length:=⟨_,rfl⟩
 have l0:n0<=64:=by rw[h0];exact ze6 _
 have l1:n1<=64:=by rw[h1];exact ze6 _
 have l2:n2<=64:=by rw[h2];exact ze6 _
 have l3:n3<=64:=by rw[h3];exact ze6 _
 have c0:=zqh (fun W=>ze7 s.w0 hs.o0 W)
 have c1:=zqh (fun W=>ze7 s.w1 hs.o1 W)
 have c2:=zqh (fun W=>ze7 s.w2 hs.o2 W)
 have c3:=zqh (fun W=>ze7 s.w3 hs.o3 W)
 rw[<-h0,<-h1,<-h2,<-h3] at HL
 rw[<-h0] at c0
 rw[<-h1] at c1
 rw[<-h2] at c2
 rw[<-h3] at c3
 clear h0 h1 h2 h3
 have i0:=zvM (.int .u64 s.w0) (.int .u64 s.w1) (.int .u64 s.w2) (.int .u64 s.w3)
 have i1:=zvN (.int .u64 s.w0) (.int .u64 s.w1) (.int .u64 s.w2) (.int .u64 s.w3)
 have i2:=zvO (.int .u64 s.w0) (.int .u64 s.w1) (.int .u64 s.w2) (.int .u64 s.w3)
 have i3:=zvP (.int .u64 s.w0) (.int .u64 s.w1) (.int .u64 s.w2) (.int .u64 s.w3)
 go_enter Tryz.func121,Tryz.ntmps121
 go_wp2
 refine wp_loop_rounds 5 ?_
 rw[kT]
 go_wp2_with fail
 refine (c0.out _).mono ?_
 rintro e w1 ⟨rfl,rfl⟩
 go_wp2_with fail
 rw[kT]
 go_wp2_with fail
 refine (c1.out _).mono ?_
 rintro e w1 ⟨rfl,rfl⟩
 go_wp2_with fail
 rw[kT]
 go_wp2_with fail
 refine (c2.out _).mono ?_
 rintro e w1 ⟨rfl,rfl⟩
 go_wp2_with fail
 rw[kT]
 go_wp2_with fail
 refine (c3.out _).mono ?_
 rintro e w1 ⟨rfl,rfl⟩
 go_wp2_with fail
 rw[kT]
 go_wp2_with fail
 go_ret
 exact ⟨by rw[HL.out];rfl,zqb⟩
end

section
open Go.RowKit
section
variable {AA:World->Value->List Nd->(Nat->Prop)->Prop}
theorem zkC (w:World) (x:Int) (t:TypeId):zb1 (w.alloc (.cells #[.int .i64 x] t)) (.slice (some ⟨w.heap.size,0,none⟩) 1 1) [x] :=
 ⟨_,_,rfl,fun _=>⟨w.heap.size,0,rfl,by simp,fun j hj=>by
  have h:=(At.new w t #[.int .i64 x]).cell (0+j)
  rw[h]
  have hj:j<1:=hj
  have:j=0:=by omega
  subst this;rfl⟩⟩
theorem zb1.next {w w':World} {v:Value} {l:List Int} (h:zb1 w v l) (hb:Below w.heap.size w w'):zb1 w' v l:=by
 obtain ⟨A,c,rfl,h⟩:=h
 refine ⟨A,c,rfl,fun hl=>?_⟩
 obtain ⟨b,off,rfl,hlt,hc⟩:=h hl
 exact ⟨b,off,rfl,qM hlt hb.size,fun j hj=>(hb.cell (p:=⟨b,off+j,none⟩) hlt).trans (hc j hj)⟩
theorem zkD (S:ArenaMid AA) {w:World} {a v:Value} {ns:List Nd} {F:Nat->Prop} (l:List Int) (h:AA w a ns F) (hv:zb1 w v l) (hl:l.length<=20000) (hI:∀x∈l,zac ns x):Calls Tryz.prog 124 #[a,v] w fun e w'=>e=.returned (.bool true)/\w'=w:=by
 obtain ⟨A,c,rfl,hv⟩:=hv
 have HV:=zqh hv
 have HI:=zqh hI
 have hmx:=S.max h
 have HA:=zqh h
 have HL:=zqh (S.len h)
 clear hv hI h
 go_enter Tryz.func124,Tryz.ntmps124
 go_wp2_with fail
 go_loopw [9] (fun i wr=>∃j:Nat,j<=l.length/\i=.int .i64 j/\wr=w) (fun i _=>l.length-(intOf i).toNat)
 case atStart=>exact ⟨0,qK _,rfl,rfl⟩
 case round =>
  obtain ⟨j,hj,rfl,rfl⟩:=hrel
  by_cases hjl:j<l.length
  ·obtain ⟨b,off,rfl,hlt,hc⟩:=HV.out (by omega)
   have hjz:(0:Int)<=(j:Int):=by omega
   have hjn:(j:Int)<(l.length:Int):=by omega
   have hin:=HI.out l[j] (qG hjl)
   have c0:=hc j hjl
   obtain ⟨x,hx⟩:∃x,l[j]=x:=⟨_,rfl⟩
   rw[hx] at hin c0
   unfold zac at hin
   obtain ⟨hx0,hx1⟩:=hin
   have hxd0:decide (x<0)=false:=qE (by omega)
   have hxd1:decide ((ns.length:Int)<=x)=false:=qE (by omega)
   have hxn0:¬x<0:=by omega
   have hxn1:¬(ns.length:Int)<=x:=by omega
   clear hc hx
   go_wp2_with fail
   refine HL.out.mono ?_
   rintro e w1 ⟨rfl,rfl⟩
   go_wp2_with fail
   refine ⟨⟨j+1,by omega,by go_num,trivial⟩,by simp[intOf];omega⟩
  ·obtain rfl:j=l.length:=by omega
   go_wp2_with fail
   go_ret
   exact ⟨rfl,rfl⟩
theorem znk (S:ArenaMid AA) {w:World} {a:Value} {ns:List Nd} {F:Nat->Prop} (x:Int) (h:AA w a ns F) (hx:zac ns x):Calls Tryz.prog 163 #[a,.int .i64 x] w fun e w'=>e=.returned (.int .i64 (kd ns x))/\Below w.heap.size w w':=by
 have hmx:=S.max h
 have HX:=zqh hx
 have hxI:I64 x:=by unfold zac at hx;unfold I64;omega
 have HN:=zqh (S.nodeIn x h hxI)
 clear h hx
 go_enter Tryz.func163,Tryz.ntmps163
 go_wp2_with fail
 refine HN.out.mono ?_
 rintro e w1 ⟨y,rfl,hy,hb1⟩
 have hy:=hy HX.out
 have HB1:=zqh hb1
 have HK:Hid (kd ns x=y.kind):=zqh (by unfold kd;rw[<-hy])
 have hone:=Nd.one y
 have HXb:=zqh (zbq w1 y)
 have HBb:=zqh (HB1.out.trans ((zaN w1 y).mono HB1.out.size))
 have ck:=(Nd.cells HXb.out).1
 clear hy hb1
 go_wp2_with (first
  |(with_reducible show wpList _ _ _ (⟨none,.store _ _ _,_,_,_,_⟩::_) _ _
    refine qN rfl 61 _ _ rfl w1.heap.size y.cs.toArray rfl rfl 61 Nd.zero.cs.toArray (At.new _ _ _) (by kernel_rfl) rfl hone ?_
    first | change wpList _ _ _ _ _ (zaD w1 y) | change Exit.then _ _ _ _ (zaD w1 y))
  | fail)
 go_ret
 exact ⟨by rw[HK.out];rfl,HBb.out⟩
theorem zqP (S:ArenaMid AA) {w:World} {a:Value} {ns:List Nd} {F:Nat->Prop} (x:Int) (y:Nd) (h:AA w a ns F) (hx:zac ns x) (hy:y=zaQ ns x.toNat):Calls Tryz.prog 126 #[a,.agg y.cs.toArray] w fun e w'=>e=.returned (.bool (zfw ns x))/\Below w.heap.size w w':=by
 have HX:=zqh hx
 have HF:=zqh (S.fine h)
 have HB:Hid (Below w.heap.size w (w.alloc (.cells y.cs.toArray 61))):=zqh (zqb)
 have HA:=zqh (S.next h HB.out)
 have HK:Hid (kd ns x=y.kind/\ka ns x=y.a):=zqh ⟨by unfold kd;rw[hy],by unfold ka;rw[hy]⟩
 obtain ⟨c0,c1,c2,c3,c4,c5,c6,c7⟩:=Nd.cells (At.new w 61 y.cs.toArray)
 clear h hx hy
 by_cases hk:y.kind=6
 ·have HC:=zqh (znk S y.a HA.out (by have:=(zbT HF.out HX.out (Or.inl (by rw[HK.out.1,hk]))).1;rwa [HK.out.2] at this))
  have HE:Hid (zfw ns x=decide (kd ns y.a=0)):=zqh (by unfold zfw;rw[HK.out.1,HK.out.2,qD hk,jS])
  rw[hk] at c0
  clear hk
  go_enter Tryz.func126,Tryz.ntmps126
  go_wp2_with fail
  refine HC.out.mono ?_
  rintro e w1 ⟨rfl,hb⟩
  have HB1:=zqh (HB.out.trans (hb.mono HB.out.size))
  clear hb
  go_wp2_with fail
  go_ret
  exact ⟨by rw[HE.out];rfl,HB1.out⟩
 ·have HE:Hid (zfw ns x=false):=zqh (by unfold zfw;rw[HK.out.1,qE hk,yC])
  have hkb:=(zab hk).1
  clear hk
  go_enter Tryz.func126,Tryz.ntmps126
  go_wp2_with fail
  go_ret
  exact ⟨by rw[HE.out];rfl,HB.out⟩
theorem ze8 {s:St}:s.list.length=0↔∀b,b<256->s.has b=false:=by
 have:s.list.length=0↔∀b:Nat,b ∉ s.list:=by
  rw[List.length_eq_zero_iff]
  exact List.eq_nil_iff_forall_not_mem
 rw[this]
 constructor
 ·intro h b hb
  cases e:s.has b with
  | false=>rfl
  | true=>exact absurd ((List.mem_filter.2 ⟨List.mem_range.2 hb,e⟩)) (h b)
 ·intro h b hb
  obtain ⟨q1,q2⟩:=List.mem_filter.1 hb
  rw[h b (List.mem_range.1 q1)] at q2;cases q2
end
end
end Go.Proofs.YtdmodhnhldbpnaaGreat
