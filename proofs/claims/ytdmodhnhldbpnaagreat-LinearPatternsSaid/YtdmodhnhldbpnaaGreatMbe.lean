/- Joined: FoF, FoG, FoH. -/
import Derived.Test.YtdmodhnhldbpnaaGreatMbd
import Derived.Test.YtdmodhnhldbpnaaGreatAid
/- package formula: both, with. -/
set_option linter.unusedSimpArgs false
set_option linter.unusedVariables false
set_option maxHeartbeats 8000000
set_option maxRecDepth 100000
namespace Go.Proofs.YtdmodhnhldbpnaaGreat
section
open Go.RowKit
theorem zn6 (l:List Int):(l.mergeSort fun x y=>decide (x<=y)).Pairwise (·<=·):=by
 have:=List.pairwise_mergeSort (le:=fun x y:Int=>decide (x<=y)) (fun a b c=>by simp;omega) (fun a b=>by simp;omega) l
 exact this.imp (fun {a b} h=>by simpa using h)
theorem zip (l:List Int) (x:Int):x∈(l.mergeSort fun x y=>decide (x<=y))↔x∈l:=List.mem_mergeSort
theorem zud {w:World} {u v:Value} {a b:List Int} {T:TypeId} (h:zak w u a) (h':zak w v b):zcF (w.alloc (.cells #[u,v] T)) (.slice (some ⟨w.heap.size,0,none⟩) 2 2) [a,b]:=by
 have hb:Below w.heap.size w (w.alloc (.cells #[u,v] T)):=zqb
 have hA:=At.new w T #[u,v]
 refine ⟨_,2,rfl,qL _,by omega,fun _=>⟨w.heap.size,0,rfl,hA.lt,fun j hj=>?_⟩⟩
 have hj':j<2:=hj
 match j,hj' with
 | 0,_=>exact ⟨u,hA.cell 0,h.next hb⟩
 | 1,_=>exact ⟨v,hA.cell 1,h'.next hb⟩
theorem zde {w:World} {R:Nat->Prop} {A:Option Addr} {c:Nat} {l:List Int} {m:Nat} (h:zak w (.slice A l.length c) l) (hA:∀b off s,A=some ⟨b,off,s⟩->¬R b) (hu:Up l) (h0:∀x∈l,0<=x/\x<=9223372036854775807) (hm:zcX m l):zbB w R ⟨.slice A l.length c,m,l⟩:=by
 obtain ⟨A',c',e,h2,h3,h4,h5⟩:=h
 injection e with e1 _ e3
 subst e1 e3
 refine ⟨⟨A,c,rfl,h2,h3,fun h0=>?_⟩,⟨hu,h0⟩,hm⟩
 obtain ⟨b,off,e,hb,r⟩:=h5 h0
 exact ⟨b,off,e,hA b off _ e,hb,r⟩
theorem zvb (p q:Pt) (R R':Nat->Prop) (w:World) (hp:zbB w R p) (hq:zbB w R' q) (hl:p.l.length+q.l.length<=4000000) :
  Calls Tryz.prog 213 #[.agg #[p.v,.int .u64 p.m],.agg #[q.v,.int .u64 q.m]] w fun e w'=>∃t:Pt,e=.returned (.agg #[t.v,.int .u64 t.m])/\zbB w' (fun b=>b<w.heap.size) t/\(∀x,x∈t.l↔x∈p.l\/x∈q.l)/\t.l.length<=p.l.length+q.l.length/\Below w.heap.size w w':=by
 have HP:=zqh hp
 have HQ:=zqh hq
 have HL:=zqh hl
 obtain ⟨Ap,cp,hv,_⟩:=hp.1
 obtain ⟨Aq,cq,hv',_⟩:=hq.1
 obtain ⟨pv,hpv⟩:∃pv,p.v=pv:=⟨_,rfl⟩
 obtain ⟨qv,hqv⟩:∃qv,q.v=qv:=⟨_,rfl⟩
 rw[hpv] at hv ⊢
 rw[hqv] at hv' ⊢
 subst hv hv'
 have HPv:=zqh hpv
 have HQv:=zqh hqv
 clear hp hq hl hpv hqv
 go_enter Tryz.func213,Tryz.ntmps213
 have h1:At (((w.alloc (.cells #[.slice Ap p.l.length cp,.int .u64 p.m] 171)).alloc (.cells #[.slice Aq q.l.length cq,.int .u64 q.m] 171)).alloc (.cells #[.slice none 0 0,.int .u64 0] 171)) w.heap.size 171 #[.slice Ap p.l.length cp,.int .u64 p.m]:=((At.new _ _ _).alloc _).alloc _
 have h2:At (((w.alloc (.cells #[.slice Ap p.l.length cp,.int .u64 p.m] 171)).alloc (.cells #[.slice Aq q.l.length cq,.int .u64 q.m] 171)).alloc (.cells #[.slice none 0 0,.int .u64 0] 171)) (w.heap.size+1) 171 #[.slice Aq q.l.length cq,.int .u64 q.m]:=by
  have:=(At.new (w.alloc (.cells #[.slice Ap p.l.length cp,.int .u64 p.m] 171)) 171 #[.slice Aq q.l.length cq,.int .u64 q.m]).alloc (.cells #[.slice none 0 0,.int .u64 0] 171)
  simpa using this
 have h3:At (((w.alloc (.cells #[.slice Ap p.l.length cp,.int .u64 p.m] 171)).alloc (.cells #[.slice Aq q.l.length cq,.int .u64 q.m] 171)).alloc (.cells #[.slice none 0 0,.int .u64 0] 171)) (w.heap.size+1+1) 171 #[.slice none 0 0,.int .u64 0]:=by
  have:=At.new ((w.alloc (.cells #[.slice Ap p.l.length cp,.int .u64 p.m] 171)).alloc (.cells #[.slice Aq q.l.length cq,.int .u64 q.m] 171)) 171 #[.slice none 0 0,.int .u64 0]
  simpa using this
 have hB0:Below w.heap.size w (((w.alloc (.cells #[.slice Ap p.l.length cp,.int .u64 p.m] 171)).alloc (.cells #[.slice Aq q.l.length cq,.int .u64 q.m] 171)).alloc (.cells #[.slice none 0 0,.int .u64 0] 171)) :=
  ((zqb).alloc (by simp) _).alloc (by simp;omega) _
 have hs0:(((w.alloc (.cells #[.slice Ap p.l.length cp,.int .u64 p.m] 171)).alloc (.cells #[.slice Aq q.l.length cq,.int .u64 q.m] 171)).alloc (.cells #[.slice none 0 0,.int .u64 0] 171)).heap.size=w.heap.size+1+1+1:=by simp
 go_wp2_with fail
 obtain ⟨w0,hw0⟩:∃w0,w0=((w.alloc (.cells #[.slice Ap p.l.length cp,.int .u64 p.m] 171)).alloc (.cells #[.slice Aq q.l.length cq,.int .u64 q.m] 171)).alloc (.cells #[.slice none 0 0,.int .u64 0] 171):=⟨_,rfl⟩
 rw[<-hw0] at h1 h2 h3 hB0 hs0 ⊢
 clear hw0
 have i1:zak w0 (.slice Ap p.l.length cp) p.l:=by rw[<-HPv.out];exact HP.out.ints.next hB0
 have i2:zak w0 (.slice Aq q.l.length cq) q.l:=by rw[<-HQv.out];exact HQ.out.ints.next hB0
 have hfm:=(zud (T:=80) i1 i2).srcs
 rw[hs0] at hfm
 have hb1:Below w0.heap.size w0 (w0.alloc (.cells #[.slice Ap p.l.length cp,.slice Aq q.l.length cq] 80)):=zqb
 have hL4:=HL.out
 have hsum:zho ([p.l,q.l].map (fun p=>(p.length,p.map (Value.int .i64))))<=4000000:=by rw[zes];simpa using hL4
 have hC:=zfn _ _ _ _ _ hfm hsum
 with_reducible refine hC.mono ?_
 rintro e w1 ⟨v1,rfl,hown,hb2⟩
 rw[zes,zji] at hown
 have hfl:[p.l,q.l].flatten=p.l++q.l:=by simp
 rw[hfl] at hown
 have HB1:Hid (Below w0.heap.size w0 w1):=zqh (hb1.trans (hb2.mono hb1.size))
 have HOw:Hid (zq9 w1 (w.heap.size+1+1+1) v1 (p.l++q.l)):=zqh (by
  have hsz:=hb1.size
  rw[hs0] at hsz
  obtain ⟨r1,r2 | ⟨g',cap,cur,r2,r3,r4⟩⟩:=hown
  ·exact ⟨r1,.inl r2⟩
  ·exact ⟨r1,.inr ⟨g',cap,cur,r2,by omega,r4⟩⟩)
 have H1:Hid (At w1 w.heap.size 171 #[.slice Ap p.l.length cp,.int .u64 p.m]):=zqh (h1.below HB1.out h1.lt)
 have H2:Hid (At w1 (w.heap.size+1) 171 #[.slice Aq q.l.length cq,.int .u64 q.m]):=zqh (h2.below HB1.out h2.lt)
 have H3:Hid (At w1 (w.heap.size+1+1) 171 #[.slice none 0 0,.int .u64 0]):=zqh (h3.below HB1.out h3.lt)
 have HB2:Hid (Below w.heap.size w w1):=zqh (hB0.trans (HB1.out.mono hB0.size))
 clear h1 h2 h3 hB0 hb1 hb2 hown hfl i1 i2 hfm hs0
 go_wp2_with fail
 refine (zuc HOw.out (by rw[qF];exact qH HL.out (by decide))).mono ?_
 rintro e w2 ⟨rfl,hso,hg2⟩
 have hlow:∀k,v1.ownBlock=some k->w.heap.size+1+1+1<=k:=fun k e=>(World.ownsRow.lt HOw.out k e).1
 have HLow:=zqh hlow
 have HSo:=zqh hso
 have K1:Hid (At w2 w.heap.size 171 #[.slice Ap p.l.length cp,.int .u64 p.m]):=zqh (zex H1.out hg2 (fun e=>by have:=hlow _ e;omega))
 have K2:Hid (At w2 (w.heap.size+1) 171 #[.slice Aq q.l.length cq,.int .u64 q.m]):=zqh (zex H2.out hg2 (fun e=>by have:=hlow _ e;omega))
 have K3:Hid (At w2 (w.heap.size+1+1) 171 #[.slice none 0 0,.int .u64 0]):=zqh (zex H3.out hg2 (fun e=>by have:=hlow _ e;omega))
 have HB3:Hid (Below w.heap.size w w2):=zqh (zcC HB2.out HB2.out.size hg2 (fun k e=>by have:=hlow k e;omega))
 obtain ⟨S,hS⟩:∃S,(p.l++q.l).mergeSort (fun x y=>decide (x<=y))=S:=⟨_,rfl⟩
 rw[hS] at HSo
 have hle:=zn6 (p.l++q.l)
 have hme:=zip (p.l++q.l)
 have hln:S.length=p.l.length+q.l.length:=by rw[<-hS];simp
 rw[hS] at hle hme
 have HLe:=zqh hle
 have HMe:=zqh hme
 have HLn:=zqh hln
 have HIs:Hid (∀x∈S,IsI x/\0<=x/\x<=9223372036854775807):=zqh (fun x hx=>by
  have:=(hme x).1 hx
  rcases List.mem_append.1 this with h | h
  ·have:=HP.out.2.1.2 x h;unfold IsI;omega
  ·have:=HQ.out.2.1.2 x h;unfold IsI;omega)
 clear hso hg2 hlow hS hle hme hln
 have hcall:=zqg (w:=w2.drew) (base:=w.heap.size+1+1+1) (v:=v1) (l:=S) HSo.out (fun x hx=>(HIs.out x hx).1) (by rw[HLn.out];exact qH HL.out (by decide))
 have HCall:=zqh hcall
 have k1:w2.drew.cell? ⟨w.heap.size,1,none⟩=some (.int .u64 p.m):=K1.out.cell 1
 have k2:w2.drew.cell? ⟨w.heap.size+1,1,none⟩=some (.int .u64 q.m):=K2.out.cell 1
 have eo:bits .or .u64 (p.m:Int) (q.m:Int)=((p.m ||| q.m:Nat):Int):=zfx _ _ HP.out.2.2.1 HQ.out.2.2.1
 have HBd:Hid (Below w.heap.size w w2.drew):=zqh (yF HB3.out)
 have hfin:Hid (∀(w3:World) (A3:Option Addr) (c3:Nat),zak w3 (.slice A3 (Lib.compact S).length c3) (Lib.compact S)->(∀b off s,A3=some ⟨b,off,s⟩->w.heap.size+1+1+1<=b)->Below w.heap.size w w3 ->
   ∃t:Pt,Ending.returned (.agg #[.slice A3 (Lib.compact S).length c3,.int .u64 (p.m ||| q.m:Nat)])=.returned (.agg #[t.v,.int .u64 t.m])/\zbB ((w3.setCell ⟨w.heap.size+1+1,0,none⟩ (.slice A3 (Lib.compact S).length c3)).setCell ⟨w.heap.size+1+1,1,none⟩ (.int .u64 (p.m ||| q.m:Nat))) (fun b=>b<w.heap.size) t/\(∀x,x∈t.l↔x∈p.l\/x∈q.l)/\t.l.length<=p.l.length+q.l.length /\
    Below w.heap.size w ((w3.setCell ⟨w.heap.size+1+1,0,none⟩ (.slice A3 (Lib.compact S).length c3)).setCell ⟨w.heap.size+1+1,1,none⟩ (.int .u64 (p.m ||| q.m:Nat)))):=zqh (by
  intro w3 A3 c3 hi3 hl3 hb3
  obtain ⟨u1,u2⟩:=zhK HLe.out
  have hmm:∀x,x∈Lib.compact S↔x∈p.l\/x∈q.l:=fun x=>by rw[u2 x,HMe.out x,yO]
  refine ⟨⟨.slice A3 (Lib.compact S).length c3,p.m ||| q.m,Lib.compact S⟩,rfl,?_,hmm,?_,(hb3.setCell (p:=⟨w.heap.size+1+1,0,none⟩) (by dsimp only;omega) _).setCell (p:=⟨w.heap.size+1+1,1,none⟩) (by dsimp only;omega) _⟩
  ·have h:=zde (R:=fun b=>b<w.heap.size+1+1+1) hi3 (fun b off s e h=>by have:=hl3 b off s e;omega) u1 (fun x hx=>(HIs.out x ((u2 x).1 hx)).2) (zsE HP.out.2.2 HQ.out.2.2 hmm)
   exact (h.grown (zdS w3 (w.heap.size+1+1) 0 1 _ _) (fun k e=>by injection e with e;subst e;exact xW _)).forget (fun b _ h=>qM h (by omega))
  ·show (Lib.compact S).length<=_
   have:=Lib.compact_length_le S
   have:=HLn.out
   omega)
 clear hcall
 go_wp2_with fail
 go_region_with (first
  |(go_at_call 109;(with_reducible refine (HCall.out).mono ?_);rintro e w3 ⟨A3,c3,rfl,hi3,hlow3,hg3⟩
    have M1:Hid (At w3 w.heap.size 171 #[.slice Ap p.l.length cp,.int .u64 p.m]):=zqh (zex (w:=w2.drew) K1.out hg3 (fun e=>by have:=HLow.out _ e;omega))
    have M2:Hid (At w3 (w.heap.size+1) 171 #[.slice Aq q.l.length cq,.int .u64 q.m]):=zqh (zex (w:=w2.drew) K2.out hg3 (fun e=>by have:=HLow.out _ e;omega))
    have M3:Hid (At w3 (w.heap.size+1+1) 171 #[.slice none 0 0,.int .u64 0]):=zqh (zex (w:=w2.drew) K3.out hg3 (fun e=>by have:=HLow.out _ e;omega))
    have m1:=M1.out.cell 1
    have m2:=M2.out.cell 1
    have m30:=M3.out.cell 0
    have m31:=M3.out.cell 1
    have n30:=M3.out.free 0
    have n31:=M3.out.free 1
    have Hi3:=zqh hi3
    have Hlow3:=zqh hlow3
    have HB4:=zqh (zcC HBd.out HBd.out.size hg3 (fun k e=>by have:=HLow.out k e;omega))
    clear hi3 hlow3 hg3))
 all_goals go_wp2_with fail
 all_goals exact yD (results_cell_row Tryz.results213 _ _ (w.heap.size+1+1) 171 #[.slice A3 (Lib.compact S).length c3,.int .u64 (p.m ||| q.m:Nat)] (0,0) _ rfl ((M3.out.set 0 _).set 1 _) Tryz.underlying171 rfl (by kernel_rfl)) rfl (hfin.out _ _ _ Hi3.out Hlow3.out HB4.out)
end

section
open Go.RowKit
def zlc (p:Pt) (g ts:List Pt):Prop :=
 (g.any (fun q=>zg5 q.l p.l)=true/\ts=[p])\/(g.any (fun q=>zg5 q.l p.l)=false/\ts.length=g.length/\∀j (h:j<ts.length) (h':j<g.length),(∀x,x∈ts[j].l↔x∈p.l\/x∈g[j].l)/\ts[j].l.length<=p.l.length+g[j].l.length)
theorem zvc (p:Pt) (xs:List Pt) (A:Option Addr) (n c:Nat) (R:Nat->Prop) (w:World) (hp:zbB w R p) (h:zdC w (.slice A n c) xs) (hl:∀x∈p::xs,x.l.length<=1000000) (hn:xs.length<=1000000) :
  Calls Tryz.prog 205 #[.agg #[p.v,.int .u64 p.m],.slice A n c] w fun e w'=>∃v ts,e=.returned v/\Pts w' w.heap.size v ts/\(∀t∈ts,zbB w' (fun b=>b<w.heap.size/\R b\/v.ownBlock=some b) t)/\zlc p xs ts/\Below w.heap.size w w':=by
 have HI:=zqh h
 have HP:=zqh hp
 obtain ⟨hm,hm2,hm3⟩:=h.max
 obtain rfl:=h.len
 have HL:=zqh hl
 have hB0:Below w.heap.size w (w.alloc (.cells #[p.v,.int .u64 p.m] 171)):=zqb
 have hA0:At (w.alloc (.cells #[p.v,.int .u64 p.m] 171)) w.heap.size 171 #[p.v,.int .u64 p.m]:=At.new _ _ _
 obtain ⟨Ap,cp,hv,_⟩:=hp.1
 obtain ⟨pv,hpv⟩:∃pv,p.v=pv:=⟨_,rfl⟩
 rw[hpv] at hv hB0 hA0 ⊢
 subst hv
 have HPv:=zqh hpv
 clear h hp hl hpv
 go_enter Tryz.func205,Tryz.ntmps205
 go_wp2_with fail
 generalize w.alloc (.cells #[.slice Ap p.l.length cp,.int .u64 p.m] 171)=W at hB0 hA0 ⊢
 have HB:=zqh hB0
 have HA:=zqh hA0
 have a0:=hA0.cell 0
 have a1:=hA0.cell 1
 clear hB0 hA0
 have hpW:zbB W R p:=HP.out.below HB.out
 have hone:=(zg7 p xs A _ c R W hpW (HI.out.next HB.out) (fun x hx=>by have:=HL.out x hx;omega))
 rw[HPv.out] at hone
 refine hone.mono ?_
 rintro e w1 ⟨rfl,hb1⟩
 have HB1:=zqh (HB.out.trans (hb1.mono HB.out.size))
 have HA1:=zqh (HA.out.below hb1 HA.out.lt)
 have hs1:Hid (w.heap.size<w1.heap.size):=zqh (qM HA.out.lt hb1.size)
 have c0:=HA1.out.cell 0
 have c1:=HA1.out.cell 1
 have f0:=HA1.out.free 0
 have f1:=HA1.out.free 1
 obtain ⟨r,hr⟩:∃r,xs.any (fun q=>zg5 q.l p.l)=r:=⟨_,rfl⟩
 have HR:=zqh hr
 rw[hr]
 clear hr hone hpW hb1 a0 a1
 cases r
 ·have hmk:=zfQ xs.length (by omega)
  have hrow:=zfR w1 xs.length
  have hB2:=HB1.out.alloc HB1.out.size (.cells (madeCells zaV (xs.length*2)) 171)
  have hA2:=HA1.out.alloc (.cells (madeCells zaV (xs.length*2)) 171)
  go_wp2_with fail
  clear hmk c0 c1 f0 f1
  generalize w1.alloc (.cells (madeCells zaV (xs.length*2)) 171)=W2 at hrow hB2 hA2 ⊢
  obtain ⟨g2,hg2⟩:∃g2,g2=w1.heap.size:=⟨_,rfl⟩
  have hs2:Hid (w.heap.size<g2):=zqh (by rw[hg2];exact hs1.out)
  rw[<-hg2] at hrow ⊢
  clear hg2
  go_loopw [18] (fun v wr=>∃(i:Nat),i<=xs.length/\v=.int .i64 i/\Hid (Below w.heap.size w wr)/\Hid (At wr w.heap.size 171 #[.slice Ap p.l.length cp,.int .u64 p.m]) /\
   Hid (∃ts:List Pt,RowF wr g2 xs.length (fun j=>ts[j]?)/\(∀t∈ts,zbB wr (fun b=>b<w.heap.size\/b=g2) t)/\ts.length=i/\∀j (h:j<ts.length) (h':j<xs.length),(∀x,x∈ts[j].l↔x∈p.l\/x∈xs[j].l)/\ts[j].l.length<=p.l.length+xs[j].l.length)) (fun v _=>xs.length-(intOf v).toNat)
  case atStart=>exact ⟨0,qK _,rfl,zqh hB2,zqh hA2,zqh ⟨[],hrow.weaken (fun j x hx=>by simp at hx),(fun t ht=>by cases ht),rfl,fun j h=>absurd h (jD _)⟩⟩
  case round =>
   obtain ⟨i,hi,rfl,HB,HA,HT⟩:=hrel
   by_cases hlt:i<xs.length
   ·have h1:(0:Int)<=(i:Int):=by omega
    have h2:(i:Int)<(xs.length:Int):=by omega
    obtain ⟨g,x,rfl,_,hx,q0,q1,hxo⟩:=(HI.out.next HB.out).at i hlt
    have HX:=zqh hxo
    have HXi:=zqh hx
    obtain ⟨Ax,cx,hv,_⟩:=hxo.1
    obtain ⟨xv,hxv⟩:∃xv,x.v=xv:=⟨_,rfl⟩
    rw[hxv] at hv q0
    subst hv
    have HXv:=zqh hxv
    clear hxo hx hxv
    have c0:=HA.out.cell 0
    have c1:=HA.out.cell 1
    have f0:=HA.out.free 0
    have f1:=HA.out.free 1
    have hsz:=HA.out.lt
    have hmem:Hid (x∈p::xs):=zqh (qX _ (by rw[<-(List.getElem?_eq_some_iff.1 HXi.out).2];exact qG hlt))
    have hB1:Hid (Below wr.heap.size wr (wr.alloc (.cells #[.slice Ax x.l.length cx,.int .u64 x.m] 171))):=zqh (zqb)
    go_wp2_with fail
    have hbo:=zvb p x R (fun _=>False) (wr.alloc (.cells #[.slice Ax x.l.length cx,.int .u64 x.m] 171)) ((HP.out.below HB.out).below hB1.out) (HX.out.below hB1.out) (by have:=HL.out p (by simp);have:=HL.out x hmem.out;omega)
    rw[HPv.out,HXv.out] at hbo
    have HBo:=zqh hbo
    clear hbo c0 c1 f0 f1 q0 q1 hsz
    refine HBo.out.mono ?_
    rintro e w5 ⟨t5,rfl,k1,k2,k3,k4⟩
    obtain ⟨ts,a1,a2,a3,a4⟩:=HT.out
    have HB5:=zqh (hB1.out.trans (k4.mono hB1.out.size))
    have a1':=zqh (a1.next HB5.out)
    obtain ⟨u0,u1,d0,d1⟩:=a1'.out.there hlt
    have e0:=a1'.out.free (i*2)
    have e1:=a1'.out.free (i*2+1)
    obtain ⟨A5,c5,hv5,_⟩:=k1.1
    obtain ⟨v5,hv5'⟩:∃v5,t5.v=v5:=⟨_,rfl⟩
    rw[hv5'] at hv5 ⊢
    subst hv5
    have HV5:=zqh hv5'
    have K1:=zqh k1
    have K2:=zqh k2
    have K3:=zqh k3
    have HA2:=zqh a2
    have HA3:=zqh a3
    have HA4:=zqh a4
    have hgl:Hid (g2<wr.heap.size):=zqh a1.lt
    clear k1 k2 k3 k4 a1 a2 a3 a4 hv5'
    go_wp2_with fail
    have hg:=zdS w5 g2 (i*2) (i*2+1) (.slice A5 t5.l.length c5) (.int .u64 t5.m)
    have HB6:Below w.heap.size w w5:=HB.out.trans (HB5.out.mono HB.out.size)
    have hs2':=hs2.out
    have hgl':=hgl.out
    refine ⟨⟨i+1,by omega,by go_num,zqh ?_,zqh ?_,zqh ⟨ts++[t5],?_,?_,?_,?_⟩⟩,by simp[intOf];omega⟩
    ·exact (HB6.setCell (p:=⟨g2,i*2,none⟩) (by show w.heap.size<=g2;omega) _).setCell (p:=⟨g2,i*2+1,none⟩) (by show w.heap.size<=g2;omega) _
    ·exact zex (HA.out.below HB5.out HA.out.lt) hg (fun e=>by injection e with e;omega)
    ·have:=a1'.out.put hlt t5
     rw[HV5.out] at this
     exact this.weaken (zkf HA3.out _)
    ·intro t ht
     rcases List.mem_append.1 ht with h | h
     ·exact ((HA2.out t h).below HB5.out).grown hg (fun k e=>by injection e with e;exact Or.inr e.symm)
     ·rw[List.mem_singleton.1 h]
      refine (K1.out.forget (R':=fun b=>b<w.heap.size\/b=g2) (fun b _ h=>?_)).grown hg (fun k e=>by injection e with e;exact Or.inr e.symm)
      have:=hB1.out.size
      have:=HB.out.size
      rcases h with h | h<;>omega
    ·rw[qF,HA3.out];rfl
    ·intro j hj hj'
     by_cases e:j<ts.length
     ·rw[yP e];exact HA4.out j e hj'
     ·have ej:j=i:=by have:=HA3.out;simp at hj;omega
      subst ej
      have e2:(ts++[t5])[j]=t5:=by
       rw[gC (by omega)];simp
      have e3:xs[j]=x:=(List.getElem?_eq_some_iff.1 HXi.out).2
      rw[e2,e3]
      exact ⟨K2.out,K3.out⟩
   ·obtain rfl:i=xs.length:=by omega
    go_wp2_with fail
    go_ret
    obtain ⟨ts,a1,a2,a3,a4⟩:=HT.out
    have hown:=a1.own (base:=w.heap.size) ts (fun j h=>qI h) (by omega) (by unfold maxLen;omega) (by have:=hs2.out;omega)
    rw[a3] at hown
    refine ⟨_,ts,rfl,hown,fun t ht=>(a2 t ht).forget (fun b _ h=>?_),.inr ⟨HR.out,a3,a4⟩,HB.out⟩
    rcases h with h | h
    ·exact .inl h.1
    ·injection h with h;exact .inr h.symm
 ·go_wp2_with fail
  go_ret
  have hpW:zbB w1 R p:=HP.out.below HB1.out
  have hb:Below w1.heap.size w1 (w1.alloc (.cells #[.slice Ap p.l.length cp,.int .u64 p.m] 171)):=zqb
  refine ⟨_,[p],rfl,?_,?_,.inl ⟨HR.out,rfl⟩,HB1.out.trans (hb.mono HB1.out.size)⟩
  ·refine ⟨rfl,.inr ⟨w1.heap.size,1,_,rfl,by have:=hs1.out;omega,At.new w1 171 #[.slice Ap p.l.length cp,.int .u64 p.m],qL _,by decide,rfl,?_⟩⟩
   show [Value.slice Ap p.l.length cp,.int .u64 p.m]=[p.v,.int .u64 p.m]
   rw[HPv.out]
  ·intro t ht
   rw[List.mem_singleton.1 ht]
   have hBt:=HB1.out.trans (hb.mono HB1.out.size)
   refine HP.out.kept hBt.size (fun b _ hb=>hBt.block b hb) (fun b hb' h=>?_)
   rcases h with h | h
   ·exact h.2
   ·injection h with h
    have:=hs1.out
    dsimp only at h
    omega
end

section
open Go.RowKit
theorem zsH (x y:Pt) (R R':Nat->Prop) (w:World) (hx:zbB w R x) (hy:zbB w R' y) :
  Calls Tryz.prog 140 #[.agg #[x.v,.int .u64 x.m],.agg #[y.v,.int .u64 y.m]] w fun e w'=>e=.returned (.int .i64 (zqc x.l y.l))/\w'=(w.alloc (.cells #[x.v,.int .u64 x.m] 171)).alloc (.cells #[y.v,.int .u64 y.m] 171):=by
 have HP:=zqh hx
 have HQ:=zqh hy
 obtain ⟨Ap,cp,hv,_⟩:=hx.1
 obtain ⟨Aq,cq,hv',_⟩:=hy.1
 obtain ⟨pv,hpv⟩:∃pv,x.v=pv:=⟨_,rfl⟩
 obtain ⟨qv,hqv⟩:∃qv,y.v=qv:=⟨_,rfl⟩
 rw[hpv] at hv ⊢
 rw[hqv] at hv' ⊢
 subst hv hv'
 have HPv:=zqh hpv
 have HQv:=zqh hqv
 clear hx hy hpv hqv
 go_enter Tryz.func140,Tryz.ntmps140
 have hB0:Below w.heap.size w ((w.alloc (.cells #[.slice Ap x.l.length cp,.int .u64 x.m] 171)).alloc (.cells #[.slice Aq y.l.length cq,.int .u64 y.m] 171)):=(zqb).alloc (by simp) _
 go_wp2_with fail
 have i1:zak ((w.alloc (.cells #[.slice Ap x.l.length cp,.int .u64 x.m] 171)).alloc (.cells #[.slice Aq y.l.length cq,.int .u64 y.m] 171)) (.slice Ap x.l.length cp) x.l:=by have:=HP.out.ints.next hB0;rwa [HPv.out] at this
 have i2:zak ((w.alloc (.cells #[.slice Ap x.l.length cp,.int .u64 x.m] 171)).alloc (.cells #[.slice Aq y.l.length cq,.int .u64 y.m] 171)) (.slice Aq y.l.length cq) y.l:=by have:=HQ.out.ints.next hB0;rwa [HQv.out] at this
 refine (zvC x.l y.l Ap Aq _ cp _ cq _ i1 i2).mono ?_
 rintro e w3 ⟨rfl,rfl⟩
 go_wp2_with fail
 go_ret
 exact ⟨rfl,rfl⟩
def Ok (w:World) (g:Nat):={x:Pt // zbB w (fun b=>b=g) x}
instance (w:World) (g:Nat):Inhabited (Ok w g):=⟨⟨Pt.zero,zbB.zero _ _⟩⟩
def zn7 (w:World) (g:Nat) (x:Ok w g):List Value:=zin x.val
theorem zld {w:World} {g:Nat} (d:Array (Ok w g)) (j:Nat) (hj:j<d.size):(Sort.flatK (zn7 w g) 2 d)[j*2]! = (d[j]!).val.v/\(Sort.flatK (zn7 w g) 2 d)[j*2+1]! = .int .u64 (d[j]!).val.m:=by
 constructor
 ·rw[Sort.get_flatK _ _ _ _ (by omega),show j*2 / 2=j by omega,show j*2 % 2=0 by omega];rfl
 ·rw[Sort.get_flatK _ _ _ _ (by omega),show (j*2+1) / 2=j by omega,show (j*2+1) % 2=1 by omega];rfl
theorem zme {w:World} {g cap:Nat} {d:Array (Ok w g)} (h:RowF w g cap (fun j=>d[j]?.map (·.val))):Sort.HoldsK (zn7 w g) 2 w g 0 d:=by
 intro t ht
 rw[Sort.size_flatK] at ht
 have hj:t / 2<d.size:=by omega
 obtain ⟨a,b⟩:=h.cell (j:=t / 2) (x:=d[t / 2].val) (by rw[jZ hj];rfl)
 obtain ⟨a',b'⟩:=zld d (t / 2) hj
 rw[getElem!_pos d (t / 2) hj] at a' b'
 obtain ⟨k,hk⟩:∃k,t / 2=k:=⟨_,rfl⟩
 refine ⟨?_,h.free _⟩
 rw[yH]
 rcases Nat.mod_two_eq_zero_or_one t with e | e
 ·obtain rfl:t=k*2:=by omega
  simp only[hk] at a a'
  rw[a,a'];rfl
 ·obtain rfl:t=k*2+1:=by omega
  simp only[hk] at b b'
  rw[b,b'];rfl
theorem zkg {w:World} {g n:Nat} {os:Array Obj} {cs:Array Value} {t:TypeId} {w0:World} {g0:Nat} (d:Array (Ok w0 g0)) (h:At w g t cs) :
  At (sortWorldK (zn7 w0 g0) 2 w g 0 n d os) g t (Sort.putCells id 0 (Sort.flatK (zn7 w0 g0) 2 d) cs):=by
 have hg:=h.lt
 unfold At sortWorldK Sort.putRowK at *
 rw[Sort.heap_grow_old _ _ (by simpa [Sort.putRow,Sort.mapBlock,Sort.ahead] using hg)]
 simp[Sort.putRow,Sort.mapBlock,Sort.ahead,Array.getElem?_modify,h,Sort.onCells]
theorem zdV {w:World} {g n:Nat} {os:Array Obj} {w0:World} {g0:Nat} (d:Array (Ok w0 g0)):w.grownBy (sortWorldK (zn7 w0 g0) 2 w g 0 n d os) (some g):=by
 unfold sortWorldK Sort.putRowK
 refine ⟨rfl,rfl,rfl,by simp[Sort.grow,Sort.putRow,Sort.mapBlock,Sort.ahead],fun k hk hne=>?_⟩
 rw[Sort.heap_grow_old _ _ (by simpa [Sort.putRow,Sort.mapBlock,Sort.ahead] using hk)]
 have:g≠k:=fun e=>hne (by rw[e])
 simp[Sort.putRow,Sort.mapBlock,Sort.ahead,Array.getElem?_modify,this]
theorem zmf {w:World} {g cap n:Nat} {os:Array Obj} {w0:World} {g0:Nat} {f:Nat->Option Pt} (d:Array (Ok w0 g0)) (h:RowF w g cap f) (hc:d.size<=cap) :
  RowF (sortWorldK (zn7 w0 g0) 2 w g 0 n d os) g cap (fun j=>d[j]?.map (·.val)):=by
 obtain ⟨cs,hA,hs,_⟩:=h
 refine ⟨_,zkg d hA,by simp[Sort.putCells,hs],fun j x hx=>?_⟩
 dsimp only at hx
 obtain ⟨y,hy,rfl⟩:=Option.map_eq_some_iff.1 hx
 obtain ⟨hj,rfl⟩:=Array.getElem?_eq_some_iff.1 hy
 obtain ⟨a,b⟩:=zld d j hj
 rw[getElem!_pos d j hj] at a b
 refine ⟨by omega,?_,?_⟩
 ·unfold Sort.putCells
  rw[Array.getElem?_mapIdx,jZ (by omega),Option.map_some,if_pos ⟨qK _,by rw[Sort.size_flatK];omega⟩,Nat.sub_zero,a];rfl
 ·unfold Sort.putCells
  rw[Array.getElem?_mapIdx,jZ (by omega),Option.map_some,if_pos ⟨qK _,by rw[Sort.size_flatK];omega⟩,Nat.sub_zero,b];rfl
theorem zmg {a b c:List Int} (h:za7 a b=false) (h':za7 b c=false):za7 a c=false:=by
 rw[<-gQ] at *
 intro e
 rcases zhx b a with h1 | h1 | rfl
 ·exact h' (zcl h1 e)
 ·exact h h1
 ·exact h' e
theorem swo (w:World) (g:Nat):Sort.SWO (Proofs.ltOf fun x y:Ok w g=>zqc x.val.l y.val.l) where
 irrefl x:=by show decide _=false;rw[kQ,zf1,zd4];simp
 trans x y z h1 h2:=by
  have h1:decide _=true:=h1
  have h2:decide _=true:=h2
  rw[qY,zf1] at h1 h2
  show decide _=true
  rw[qY,zf1];exact zcl h1 h2
 ntrans x y z h1 h2:=by
  have h1:decide _=false:=h1
  have h2:decide _=false:=h2
  rw[kQ,zf1,gQ] at h1 h2
  show decide _=false
  rw[kQ,zf1,gQ];exact zmg h1 h2
theorem zhL (xs:List Pt) (w:World) (g cap c:Nat) (hr:RowF w g cap (fun j=>xs[j]?)) (hx:∀x∈xs,zbB w (fun b=>b=g) x) (hn:xs.length<=cap) (hl:xs.length<=4000000) :
  Calls Tryz.prog 139 #[.slice (some ⟨g,0,none⟩) xs.length c,.func (.func 140) #[] #[]] w fun e w' =>
   e=.returned (.tuple #[])/\∃d:Array (Ok w g),(d.toList.map (·.val)).Perm xs/\(∀i j,i<j->j<d.size->za7 (d[j]!).val.l (d[i]!).val.l=false)/\RowF w' g cap (fun j=>d[j]?.map (·.val))/\∃n os,w'=sortWorldK (zn7 w g) 2 w g 0 n d os:=by
 have eg:∀args w,(callFunc 140 args).run Tryz.prog w=.ok (.enter 140 args) w:=enters_of Tryz.func140 (by kernel_rfl) rfl
 obtain ⟨d,hd⟩:∃d:Array (Ok w g),d.toList.map (·.val)=xs:=⟨(xs.attachWith _ hx).toArray,by show List.map Subtype.val _=xs;simp⟩
 have hsz:d.size=xs.length:=by rw[<-hd];simp
 have hrd:RowF w g cap (fun j=>d[j]?.map (·.val)):=hr.weaken (fun j x e=>by rw[<-hd,xC,gA];exact e)
 have hH:=zme hrd
 have hcmp:Proofs.CmpLays Tryz.prog 140 #[] (zn7 w g) 2 (fun x y:Ok w g=>zqc x.val.l y.val.l) g 0 d.size w:=by
  intro m os dk hdk x y
  have hg:=zdV (w:=w) (g:=g) (n:=m) (os:=os) dk
  have hc:=zsH x.val y.val (fun b=>b=g) (fun b=>b=g) (sortWorldK (zn7 w g) 2 w g 0 m dk os) (x.property.grown hg (fun k e=>by injection e with e;exact e.symm)) (y.property.grown hg (fun k e=>by injection e with e;exact e.symm))
  refine hc.mono ?_
  rintro e w' ⟨rfl,rfl⟩
  refine ⟨rfl,0,#[.cells #[x.val.v,.int .u64 x.val.m] 171,.cells #[y.val.v,.int .u64 y.val.m] 171],?_⟩
  rw[Sort.alloc_eq_grow,Sort.alloc_eq_grow,Sort.grow_grow];rfl
 have hS:=Proofs.AnyQ.slices_SortFunc zbN 2 Tryz.isAgg171 Tryz.sizeOf171 (zn7 w g) (fun _=>rfl) (fun x v hv=>by
  have hv:v∈zin x.val:=hv
  simp only[zin,kB,xK,or_false] at hv
  rcases hv with rfl | rfl
  ·exact x.property.one
  ·rfl) (fun x y:Ok w g=>zqc x.val.l y.val.l) (swo w g) 140 #[] g 0 c d w eg hcmp hH hr.lt (by omega)
 rw[hsz] at hS
 refine hS.mono ?_
 rintro e w' ⟨rfl,d',n,os,hp,hs,rfl⟩
 obtain ⟨p1,_,p3⟩:=hp
 have hpd:d'.toList.Perm d.toList:=by
  have e1:d'.extract 0 xs.length=d':=by rw[<-hsz,<-p1];simp
  have e2:d.extract 0 xs.length=d:=by rw[<-hsz];simp
  rw[e1,e2] at p3
  exact p3
 refine ⟨rfl,d',?_,fun i j hij hj=>?_,zmf d' hr (by omega),n,os,rfl⟩
 ·rw[<-hd];exact hpd.map _
 ·have h:=hs i j (qK _) hij (by omega)
  have h:decide _=false:=h
  rw[kQ,zf1,gQ] at h
  exact h
end
end Go.Proofs.YtdmodhnhldbpnaaGreat
