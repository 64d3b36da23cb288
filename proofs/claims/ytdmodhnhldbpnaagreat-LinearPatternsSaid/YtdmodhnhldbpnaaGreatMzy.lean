/- Joined: RefHas, RefSame, BoxTr, Few. -/
import Derived.Test.YtdmodhnhldbpnaaGreatProg
import Derived.Test.YtdmodhnhldbpnaaGreatMaa
import Derived.Test.YtdmodhnhldbpnaaGreatMac
import Derived.Deep.RegionHeld3
import Derived.Test.YtdmodhnhldbpnaaGreatAid
/- What the reference's Has answers, of any set and byte. -/
set_option maxHeartbeats 2000000
set_option linter.unusedSimpArgs false
set_option linter.unusedVariables false
set_option maxRecDepth 100000
namespace Go.Proofs.YtdmodhnhldbpnaaGreat
section
open Go.RowKit
theorem zad {a b:Bool} (h:a=b):Ending.returned (.bool a)=.returned (.bool b):=by rw[h]
theorem St.has_of (s:St) (b q r:Nat) (hb:b=64*q+r) (hr:r<64):s.has b=(s.word q).testBit r:=by
 unfold St.has;rw[show b / 64=q from by omega,show b % 64=r from by omega]
theorem ztq (s:St) (hs:s.Ok) (b:Nat) (hb:b<256) (w:World) :
  Calls Tryz.prog 30 #[.agg #[.int .u64 s.w0,.int .u64 s.w1,.int .u64 s.w2,.int .u64 s.w3],.int .i64 b] w fun e w'=>e=.returned (.bool (s.has b))/\Below w.heap.size w w':=by
 obtain ⟨r,hr⟩:∃r:Nat,r=b % 64:=⟨_,rfl⟩
 have hm:(b:Int) % 64=r:=by omega
 have hq:b / 64=0\/b / 64=1\/b / 64=2\/b / 64=3:=by omega
 have hr':r<64:=by omega
 rcases hq with hq | hq | hq | hq
 ·have hd:(b:Int) / 64=0:=by omega
  have HR:=zqh (s.has_of b 0 r (by omega) hr')
  clear hr hq
  go_enter Tryz.func30,Tryz.ntmps30
  go_wp2
  go_loop [5,12] (fun x i=>∃k:Nat,k<=r/\i=.int .i64 k/\x=.int .u64 (hv s.w0 k:Nat)) (fun _ i=>r-(intOf i).toNat)
  case atStart=>exact ⟨0,qK _,rfl,by rw[zhU]⟩
  case round =>
   obtain ⟨k,hk,rfl,rfl⟩:=hrel
   by_cases hlt:k<r
   ·go_wp2
    go_round
    case rel=>exact ⟨k+1,by omega,by go_num,by rw[zgb _ _ hs.o0]⟩
    case measure=>simp[intOf];omega
   ·have hkr:k=r:=by omega
    subst hkr
    go_wp2
    go_ret
    exact ⟨zad ((zhV _ _).trans HR.out.symm),zqb⟩
 ·have hd:(b:Int) / 64=1:=by omega
  have HR:=zqh (s.has_of b 1 r (by omega) hr')
  clear hr hq
  go_enter Tryz.func30,Tryz.ntmps30
  go_wp2
  go_loop [5,12] (fun x i=>∃k:Nat,k<=r/\i=.int .i64 k/\x=.int .u64 (hv s.w1 k:Nat)) (fun _ i=>r-(intOf i).toNat)
  case atStart=>exact ⟨0,qK _,rfl,by rw[zhU]⟩
  case round =>
   obtain ⟨k,hk,rfl,rfl⟩:=hrel
   by_cases hlt:k<r
   ·go_wp2
    go_round
    case rel=>exact ⟨k+1,by omega,by go_num,by rw[zgb _ _ hs.o1]⟩
    case measure=>simp[intOf];omega
   ·have hkr:k=r:=by omega
    subst hkr
    go_wp2
    go_ret
    exact ⟨zad ((zhV _ _).trans HR.out.symm),zqb⟩
 ·have hd:(b:Int) / 64=2:=by omega
  have HR:=zqh (s.has_of b 2 r (by omega) hr')
  clear hr hq
  go_enter Tryz.func30,Tryz.ntmps30
  go_wp2
  go_loop [5,12] (fun x i=>∃k:Nat,k<=r/\i=.int .i64 k/\x=.int .u64 (hv s.w2 k:Nat)) (fun _ i=>r-(intOf i).toNat)
  case atStart=>exact ⟨0,qK _,rfl,by rw[zhU]⟩
  case round =>
   obtain ⟨k,hk,rfl,rfl⟩:=hrel
   by_cases hlt:k<r
   ·go_wp2
    go_round
    case rel=>exact ⟨k+1,by omega,by go_num,by rw[zgb _ _ hs.o2]⟩
    case measure=>simp[intOf];omega
   ·have hkr:k=r:=by omega
    subst hkr
    go_wp2
    go_ret
    exact ⟨zad ((zhV _ _).trans HR.out.symm),zqb⟩
 ·have hd:(b:Int) / 64=3:=by omega
  have HR:=zqh (s.has_of b 3 r (by omega) hr')
  clear hr hq
  go_enter Tryz.func30,Tryz.ntmps30
  go_wp2
  go_loop [5,12] (fun x i=>∃k:Nat,k<=r/\i=.int .i64 k/\x=.int .u64 (hv s.w3 k:Nat)) (fun _ i=>r-(intOf i).toNat)
  case atStart=>exact ⟨0,qK _,rfl,by rw[zhU]⟩
  case round =>
   obtain ⟨k,hk,rfl,rfl⟩:=hrel
   by_cases hlt:k<r
   ·go_wp2
    go_round
    case rel=>exact ⟨k+1,by omega,by go_num,by rw[zgb _ _ hs.o3]⟩
    case measure=>simp[intOf];omega
   ·have hkr:k=r:=by omega
    subst hkr
    go_wp2
    go_ret
    exact ⟨zad ((zhV _ _).trans HR.out.symm),zqb⟩
theorem zrH (s:St) (hs:s.Ok) (b:Nat) (hb:b<256) (v:Bool) (hv:s.has b=v) (w:World) :
  Calls Tryz.prog 30 #[.agg #[.int .u64 s.w0,.int .u64 s.w1,.int .u64 s.w2,.int .u64 s.w3],.int .i64 b] w fun e w'=>e=.returned (.bool v)/\Below w.heap.size w w':=by
 rw[<-hv];exact ztq s hs b hb w
end

section
open Go.RowKit
theorem ziR {w:World} (a b:Obj):Below w.heap.size w ((w.alloc a).alloc b):=(zqb).alloc (by simp) _
end

section
open Go.RowKit
theorem Tr.one (t:Tr):t.cs.toArray.all (·.oneCell')=true:=by unfold Tr.cs;simp[Value.oneCell']
def zjT (w:World) (t:Tr):World:=(w.alloc (.cells Tr.blank.cs.toArray 49)).setRow w.heap.size t.cs.toArray
theorem zfE (w:World) (t:Tr):At (zjT w t) w.heap.size 49 t.cs.toArray:=At.row (At.new w 49 Tr.blank.cs.toArray) _
theorem zd8 {w0 w:World} (h:Below w0.heap.size w0 w) (t:Tr):Below w0.heap.size w0 (zjT w t):=zdD (h.alloc h.size _) h.size _
theorem zbG (w:World) (t:Tr):Below w.heap.size w (zjT w t):=zdD (zqb) zqn _
theorem ze3 (w:World) (t:Tr):(zjT w t).heap.size=w.heap.size+1:=by unfold zjT;simp
theorem zm6 {t:Tr} (h8:¬t.kind=8) (h9:¬t.kind=9):decide (t.kind=8\/t.kind=9\/t.neg=false)=!t.neg:=by cases t.neg<;>simp[h8,h9]
end

section
open Go.RowKit
def zeh:List Int->Int->Int
 | [],n=>n
 | x::r,n=>if 2000<n+x then n+x else zeh r (n+x)
def zaX:Nat->Int->Tr->Int
 | 0,_,_=>0
 | k+1,m,t=>if m<1 then 5000 else zeh (t.parts.map (zaX k (m-1))) 1
theorem zdM (B:Int) (hB:0<=B):∀(l:List Int) (n:Int),(∀x∈l,0<=x/\x<=B)->0<=n->n<=2000->n<=zeh l n/\zeh l n<=2000+B
 | [],n,_,h0,h1=>⟨gE _,by show n<=_;omega⟩
 | x::r,n,h,h0,h1=>by
  have hx:=h x (by simp)
  rw[show zeh (x::r) n=if 2000<n+x then n+x else zeh r (n+x) from rfl]
  split
  ·omega
  ·have:=zdM B hB r (n+x) (fun y hy=>h y (qX _ hy)) (by omega) (by omega)
   omega
theorem zdr:∀(k:Nat) (m:Int) (t:Tr),0<=m->0<=zaX k m t/\zaX k m t<=5000+2000*m
 | 0,m,_,h=>by show (0:Int)<=0/\(0:Int)<=_;omega
 | k+1,m,t,h=>by
  rw[show zaX (k+1) m t=if m<1 then 5000 else zeh (t.parts.map (zaX k (m-1))) 1 from rfl]
  split
  ·omega
  ·have:=zdM (5000+2000*(m-1)) (by omega) (t.parts.map (zaX k (m-1))) 1 (by
    intro x hx
    rw[yN] at hx
    obtain ⟨p,_,rfl⟩:=hx
    exact zdr k (m-1) p (by omega)) (by omega) (by omega)
   omega
theorem zpg {k:Nat} {m n:Int} {t:Tr} {j:Nat} (h:j<t.parts.length):zeh ((t.parts.drop j).map (zaX k m)) n=if 2000<n+zaX k m t.parts[j] then n+zaX k m t.parts[j] else zeh ((t.parts.drop (j+1)).map (zaX k m)) (n+zaX k m t.parts[j]):=by
 rw[yU h,jW];rfl
theorem zjU {k:Nat} {m:Int} {t:Tr} (h:m<1):zaX (k+1) m t=5000:=by show (if _ then _ else _)=_;rw[if_pos h]
theorem zm7 {k:Nat} {m:Int} {t:Tr} (h:¬m<1):zeh ((t.parts.drop 0).map (zaX k (m-1))) 1=zaX (k+1) m t:=by
 rw[List.drop_zero];show _=(if _ then _ else _);rw[if_neg h]
theorem zky:∀(k:Nat) (m:Int) (t:Tr) (w:World),0<=m->m<=1000->Tr.In w k t ->
  Calls Tryz.prog 45 #[.agg t.cs.toArray,.int .i64 m] w fun e w'=>e=.returned (.int .i64 (zaX k m t))/\Below w.heap.size w w'
 | 0,_,_,_,_,_,h=>h.elim
 | k+1,m,t,w,h0,h1,h=>by
  have hlen:t.parts.length<=9223372036854775807:=by have:=h.2.1;omega
  have hn:=h.2.1.1
  have HI:=zqh h
  have HC:=zqh (At.tr_cell (At.new w 49 t.cs.toArray))
  clear h
  have hcell:=HC.out.2.1
  go_enter Tryz.func45,Tryz.ntmps45
  by_cases hm:m<1
  ·have hS:=zqh (zjU (k:=k) (t:=t) hm)
   go_wp2_with fail
   go_ret
   exact ⟨zaL hS.out.symm,zqb⟩
  ·have HM:=zqh (zm7 (k:=k) (t:=t) hm)
   have hm1:1<=m:=by omega
   go_wp2_with fail
   go_loopw [5,12] (fun x i wr=>∃(j:Nat) (n:Int),j<=t.parts.length/\i=.int .i64 j/\x=.int .i64 n/\(1<=n/\n<=2000)/\Hid (zeh ((t.parts.drop j).map (zaX k (m-1))) n=zaX (k+1) m t)/\Hid (At wr w.heap.size 49 t.cs.toArray)/\Hid (Below w.heap.size w wr)) (fun _ i _=>t.parts.length-(intOf i).toNat)
   case atStart=>exact ⟨0,1,qK _,rfl,rfl,by omega,HM,zqh (At.new _ _ _),zqh (zqb)⟩
   case round =>
    obtain ⟨j,n,hj,rfl,rfl,⟨hn1,hn2⟩,hF,hA,hB⟩:=hrel
    clear hcell
    by_cases hlt:j<t.parts.length
    ·have hcell:=(At.tr_cell hA.out).2.1
     obtain ⟨b,off,ha,hb,hr⟩:=HI.out.2.2.1 (by rw[hn];omega)
     have HR:=zqh (zaE (hr j hlt) hb zqn hB.out)
     have HP:=zqh (Tr.In.next (HI.out.2.2.2 j hlt) hB.out)
     have hf:=hF.out
     rw[zpg hlt] at hf
     obtain ⟨he0,he1⟩:=zdr k (m-1) t.parts[j] (by omega)
     obtain ⟨y,hy⟩:∃y:Int,zaX k (m-1) t.parts[j]=y:=⟨_,rfl⟩
     rw[hy] at he0 he1 hf
     have HY:=zqh hy
     have HG:=zqh hf
     clear hy hr hb hf
     rw[ha] at hcell
     clear ha
     have hjz:(0:Int)<=(j:Int):=by omega
     have hjn:(j:Int)<(t.parts.length:Int):=by omega
     go_wp2_with (refine wpList_load_mid rfl 49 _ rfl b (off+j*9) rfl t.parts[j].cs _ HR.out Tryz.underlying49 rfl (by rw[Tr.cs_length];kernel_rfl) ?_)
     refine (zky k (m-1) t.parts[j] _ (by omega) (by omega) HP.out).mono ?_
     rintro e w3 ⟨rfl,hb3⟩
     rw[HY.out]
     have HA:=zqh (hA.out.step hb3 rfl)
     have HB:=zqh (zaf hB.out hb3 rfl rfl rfl rfl)
     clear hb3 hcell
     by_cases hg:2000<n+y
     ·have hd:=za6 hg
      have HG2:Hid (n+y=zaX (k+1) m t):=by have h:=HG.out;rw[if_pos hg] at h;exact h
      go_wp2_with fail
      go_ret
      exact ⟨zaL HG2.out,HB.out⟩
     ·have hd:=za0 hg
      have HG2:Hid (zeh ((t.parts.drop (j+1)).map (zaX k (m-1))) (n+y)=zaX (k+1) m t):=by have h:=HG.out;rw[if_neg hg] at h;exact h
      go_wp2_with fail
      exact ⟨⟨j+1,n+y,by omega,by go_num,rfl,by omega,HG2,HA,HB⟩,by simp[intOf];omega⟩
    ·obtain rfl:j=t.parts.length:=by omega
     have hf:=hF.out
     rw[kW] at hf
     have HG:Hid (n=zaX (k+1) m t):=hf
     clear hf
     go_wp2_with fail
     go_ret
     exact ⟨zaL HG.out,hB.out⟩
theorem ziS (k:Nat) (m:Int) (t:Tr) (w:World) (h0:0<=m) (h1:m<=1000) (h:Tr.In w k t) :
  Calls Tryz.prog 15 #[.agg t.cs.toArray,.int .i64 m] w fun e w'=>e=.returned (.bool (decide (zaX k m t<=2000)))/\Below w.heap.size w w':=by
 have HI:=zqh h
 clear h
 go_enter Tryz.func15,Tryz.ntmps15
 go_wp2_with (first | (refine jU rfl 49 _ rfl w.heap.size rfl 49 t.cs.toArray (0,0) _ (At.new w 49 t.cs.toArray) Tryz.underlying49 rfl (by kernel_rfl) ?_) | fail)
 have hB:Below w.heap.size w (w.alloc (Obj.cells t.cs.toArray 49)):=zqb
 refine (zky k m t _ h0 h1 (HI.out.next hB)).mono ?_
 rintro e w1 ⟨rfl,hb1⟩
 go_wp2_with fail
 go_ret
 exact ⟨rfl,zaf hB hb1 rfl rfl rfl rfl⟩
end
end Go.Proofs.YtdmodhnhldbpnaaGreat
