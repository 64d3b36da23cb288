/- Joined: FmMath, FmChosen, Vals, FmMake, FmAtoms, FmOp, FmOpMath, ArenaMade, NodeRow, ArenaB, NormSpec. -/
import Derived.Test.YtdmodhnhldbpnaaGreatMae
import Derived.Laws.OwnMore
import Derived.Deep.AppendLies
import Derived.Deep.OwnRows
import Derived.Lib.RabinKarpLaws
import Derived.Deep.RegionHeld3
import Derived.Maps.AppendAt
import Derived.Test.YtdmodhnhldbpnaaGreatMad
import Derived.BigRegion
import Derived.BigQuiet
import Derived.Test.YtdmodhnhldbpnaaGreatAid
/- Formed formulas: two that hold alike are the same. Mathematics; no program is named. -/
set_option linter.unusedSimpArgs false
set_option linter.unusedVariables false
namespace Go.Proofs.YtdmodhnhldbpnaaGreat
section
def Up (p:List Int):Prop:=p.Pairwise (fun a b=>a<b)
theorem zc7 {g:Nat->Bool} {n:Nat}:(List.range n).all g=true↔∀k,k<n->g k=true:=by
 rw[jJ]
 exact ⟨fun h k hk=>h k (List.mem_range.2 hk),fun h k hk=>h k (List.mem_range.1 hk)⟩
theorem zdo {α:Type} {R:α->α->Prop} (ht:∀a b c,R a b->R b c->R a c):∀(l:List α),(∀k (h:k+1<l.length),R l[k] l[k+1])->l.Pairwise R
 | [],_=>List.Pairwise.nil
 | [a],_=>kR _ _
 | a::b::l,h=>by
  have h1:R a b:=h 0 (by simp)
  have ih:=zdo ht (b::l) (fun k hk=>h (k+1) (by simpa using hk))
  refine List.pairwise_cons.2 ⟨fun x hx=>?_,ih⟩
  rcases List.mem_cons.1 hx with rfl | hx
  ·exact h1
  ·exact ht _ _ _ h1 ((List.pairwise_cons.1 ih).1 x hx)
theorem zrC {p:List Int} (h:zlF p=true):Up p/\∀x∈p,0<=x:=by
 have hk:=zc7.1 h
 refine ⟨zdo (R:=fun a b:Int=>a<b) (fun a b c h h'=>Int.lt_trans h h') p (fun k hk1=>?_),fun x hx=>?_⟩
 ·have:=hk (k+1) hk1
  simp only[qR,yS,qY] at this
  have h2:=this.2
  rw[xF,zay (by omega),zay hk1] at h2
  rcases h2 with h2 | h2
  ·omega
  ·exact h2
 ·obtain ⟨k,hk1,rfl⟩:=List.mem_iff_getElem.1 hx
  have:=hk k hk1
  simp only[qR,qY] at this
  rw[zay hk1] at this
  exact this.1
theorem zfD {l:List Int} {x:Int}:ziw l x=true↔x∈l:=by
 unfold ziw
 rw[jI]
 exact ⟨fun ⟨y,hy,e⟩=>by rw[beq_iff_eq] at e;rw[<-e];exact hy,fun h=>⟨x,h,by simp⟩⟩
theorem zdp {p on:List Int}:zc1 p on=true↔∀x∈p,x∈on:=by
 unfold zc1
 rw[jJ]
 exact ⟨fun h x hx=>zfD.1 (h x hx),fun h x hx=>zfD.2 (h x hx)⟩
theorem zbE {f:Fm} {on:List Int}:zap f on=true↔∃p∈f,∀x∈p,x∈on:=by
 unfold zap
 rw[jI]
 exact ⟨fun ⟨p,hp,h⟩=>⟨p,hp,zdp.1 h⟩,fun ⟨p,hp,h⟩=>⟨p,hp,zdp.2 h⟩⟩
theorem up_sub:∀(q p:List Int),Up p->Up q->(∀x∈p,x∈q)->p.Sublist q
 | [],p,_,_,h=>by
  cases p with
  | nil=>exact List.Sublist.slnil
  | cons x p=>exact absurd (h x kX) xK
 | y::q,[],_,_,_=>List.nil_sublist _
 | y::q,x::p,hp,hq,h=>by
  obtain ⟨p1,p2⟩:=List.pairwise_cons.1 hp
  obtain ⟨q1,q2⟩:=List.pairwise_cons.1 hq
  by_cases e:x=y
  ·subst e
   refine List.Sublist.cons_cons _ (up_sub q p p2 q2 (fun z hz=>?_))
   rcases List.mem_cons.1 (h z (qX _ hz)) with rfl | hz'
   ·have:=p1 _ hz;omega
   ·exact hz'
  ·have hx:x∈q:=by
    rcases List.mem_cons.1 (h x kX) with e' | hx
    ·exact absurd e' e
    ·exact hx
   have hyx:=q1 x hx
   refine List.Sublist.cons _ (up_sub q (x::p) hp q2 (fun z hz=>?_))
   rcases List.mem_cons.1 (h z hz) with rfl | hz'
   ·rcases List.mem_cons.1 hz with rfl | hz
    ·exact absurd rfl e
    ·have:=p1 _ hz;omega
   ·exact hz'
theorem zuH {p q:List Int} (hp:Up p) (hq:Up q) (h:∀x∈p,x∈q) (h':∀x∈q,x∈p):p=q :=
 (up_sub q p hp hq h).eq_of_length (Nat.le_antisymm (up_sub q p hp hq h).length_le (up_sub p q hq hp h').length_le)
theorem zmU {p q:List Int} (hp:Up p) (hq:Up q) (h:∀x∈p,x∈q) (hl:q.length<=p.length):p=q :=
 (up_sub q p hp hq h).eq_of_length (Nat.le_antisymm (up_sub q p hp hq h).length_le hl)
theorem zmV:∀a:List Int,zhg a a=false
 | []=>rfl
 | x::a=>by show (if x=x then zhg a a else _)=false;rw[if_pos rfl];exact zmV a
theorem ziM:∀a b c:List Int,a.length=b.length->b.length=c.length->zhg a b=true->zhg b c=true->zhg a c=true
 | [],_,_,_,_,h,_=>by cases h
 | x::a,[],_,h,_,_,_=>by simp at h
 | x::a,y::b,[],_,h,_,_=>by simp at h
 | x::a,y::b,z::c,h1,h2,h3,h4=>by
  have e3:(if x=y then zhg a b else decide (x<y))=true:=h3
  have e4:(if y=z then zhg b c else decide (y<z))=true:=h4
  show (if x=z then zhg a c else decide (x<z))=true
  by_cases c1:x=y
  ·subst c1
   rw[if_pos rfl] at e3
   by_cases c2:x=z
   ·rw[if_pos c2] at e4 ⊢
    exact ziM a b c (by simpa using h1) (by simpa using h2) e3 e4
   ·rw[if_neg c2] at e4 ⊢;exact e4
  ·rw[if_neg c1] at e3
   have g1:=jB e3
   by_cases c2:y=z
   ·subst c2;rw[if_neg c1];exact e3
   ·rw[if_neg c2] at e4
    have g2:=jB e4
    rw[if_neg (by omega)];exact qD (by omega)
theorem zd4 (a:List Int):za7 a a=false:=by unfold za7;rw[if_pos rfl];exact zmV a
theorem zd5 {a b:List Int} (h:za7 a b=true):a.length<=b.length:=by
 unfold za7 at h
 split at h
 ·omega
 ·have:=jB h;omega
theorem zcl {a b c:List Int} (h:za7 a b=true) (h':za7 b c=true):za7 a c=true:=by
 have l1:=zd5 h
 have l2:=zd5 h'
 unfold za7 at h h' ⊢
 by_cases c1:a.length=b.length
 ·rw[if_pos c1] at h
  by_cases c2:b.length=c.length
  ·rw[if_pos c2] at h'
   rw[if_pos (by omega)]
   exact ziM a b c c1 c2 h h'
  ·rw[if_neg (by omega)];exact qD (by omega)
 ·rw[if_neg (by omega)];exact qD (by omega)
theorem ziN {α:Type} {R:α->α->Prop} (hi:∀a,¬R a a) (ht:∀a b c,R a b->R b c->R a c):∀(l m:List α),l.Pairwise R->m.Pairwise R->(∀x,x∈l↔x∈m)->l=m
 | [],[],_,_,_=>rfl
 | [],y::m,_,_,h=>absurd ((h y).2 kX) xK
 | x::l,[],_,_,h=>absurd ((h x).1 kX) xK
 | x::l,y::m,hl,hm,h=>by
  obtain ⟨l1,l2⟩:=List.pairwise_cons.1 hl
  obtain ⟨m1,m2⟩:=List.pairwise_cons.1 hm
  have e:x=y:=by
   rcases List.mem_cons.1 ((h x).1 kX) with e | hx
   ·exact e
   ·rcases List.mem_cons.1 ((h y).2 kX) with e | hy
    ·exact e.symm
    ·exact absurd (ht _ _ _ (m1 x hx) (l1 y hy)) (hi _)
  subst e
  have:l=m:=ziN hi ht l m l2 m2 (fun z=>by
   constructor
   ·intro hz
    rcases List.mem_cons.1 ((h z).1 (qX _ hz)) with rfl | hz'
    ·exact absurd (l1 _ hz) (hi _)
    ·exact hz'
   ·intro hz
    rcases List.mem_cons.1 ((h z).2 (qX _ hz)) with rfl | hz'
    ·exact absurd (m1 _ hz) (hi _)
    ·exact hz')
  rw[this]
structure Fmd (f:Fm):Prop where
 up:∀p∈f,Up p/\∀x∈p,0<=x
 sorted:f.Pairwise (fun p q=>za7 p q=true)
 apart:∀p∈f,∀q∈f,(∀x∈p,x∈q)->p=q
theorem ztk {f:Fm} (h:fmS f=true):Fmd f:=by
 have hk:=zc7.1 h
 have hi:∀i,i<f.length->zlF (za5 f i)=true/\(i=0\/za7 (za5 f (i-1)) (za5 f i)=true)/\∀k,k<i->zc1 (za5 f k) (za5 f i)=false:=fun i hi=>by
  have:=hk i hi
  unfold zoz zb9 at this
  simp only[qR,yS,qY] at this
  refine ⟨this.1,this.2.1,fun k hk=>?_⟩
  have h2:=zc7.1 this.2.2 k hk
  simpa using h2
 have hup:∀p∈f,Up p/\∀x∈p,0<=x:=fun p hp=>by
  obtain ⟨i,hi1,rfl⟩:=List.mem_iff_getElem.1 hp
  have:=(hi i hi1).1
  rw[zaz hi1] at this
  exact zrC this
 have hs:f.Pairwise (fun p q=>za7 p q=true):=zdo (R:=fun p q=>za7 p q=true) (fun a b c h h'=>zcl h h') f (fun k hk=>by
  have:=(hi (k+1) hk).2.1
  rw[xF,zaz (by omega),zaz hk] at this
  rcases this with h | h
  ·omega
  ·exact h)
 refine ⟨hup,hs,fun p hp q hq hsub=>?_⟩
 obtain ⟨i,hi1,rfl⟩:=List.mem_iff_getElem.1 hp
 obtain ⟨k,hk1,rfl⟩:=List.mem_iff_getElem.1 hq
 rcases Nat.lt_trichotomy i k with c | c | c
 ·have:=(hi k hk1).2.2 i c
  rw[zaz hi1,zaz hk1] at this
  rw[zdp.2 hsub] at this
  cases this
 ·subst c;rfl
 ·have hl:=zd5 (List.pairwise_iff_getElem.1 hs k i hk1 hi1 c)
  have e:=zmU (hup _ hp).1 (hup _ hq).1 hsub hl
  exact e
theorem ztl {f:Fm} (h:Fmd f):fmS f=true:=by
 refine zc7.2 (fun i hi=>?_)
 unfold zoz zb9
 simp only[qR,yS,qY]
 refine ⟨?_,?_,zc7.2 (fun k hk=>?_)⟩
 ·rw[zaz hi]
  obtain ⟨h1,h2⟩:=h.up _ (qG hi)
  refine zc7.2 (fun k hk=>?_)
  simp only[qR,yS,qY]
  rw[zay hk]
  refine ⟨h2 _ (qG hk),?_⟩
  by_cases c:k=0
  ·exact Or.inl c
  ·right
   rw[zay (by omega)]
   exact List.pairwise_iff_getElem.1 h1 (k-1) k (by omega) hk (by omega)
 ·by_cases c:i=0
  ·exact Or.inl c
  ·right
   rw[zaz hi,zaz (by omega)]
   exact List.pairwise_iff_getElem.1 h.sorted (i-1) i (by omega) hi (by omega)
 ·cases hb:zc1 (za5 f k) (za5 f i) with
  | false=>rfl
  | true =>
   rw[zaz hi,zaz (by omega)] at hb
   have e:=h.apart _ (qG (by omega)) _ (qG hi) (zdp.1 hb)
   have hl:=List.pairwise_iff_getElem.1 h.sorted k i (by omega) hi hk
   rw[e,zd4] at hl
   cases hl
theorem zmW {f g:Fm} (hf:Fmd f) (hg:Fmd g) (h:∀on,zap f on=zap g on):f=g:=by
 have half:∀{f g:Fm},Fmd f->Fmd g->(∀on,zap f on=zap g on)->∀p∈f,p∈g:=by
  intro f g hf hg h p hp
  have h1:zap f p=true:=zbE.2 ⟨p,hp,fun _ hx=>hx⟩
  rw[h p] at h1
  obtain ⟨q,hq,hqp⟩:=zbE.1 h1
  have h2:zap g q=true:=zbE.2 ⟨q,hq,fun _ hx=>hx⟩
  rw[<-h q] at h2
  obtain ⟨r,hr,hrq⟩:=zbE.1 h2
  have e:=hf.apart r hr p hp (fun x hx=>hqp x (hrq x hx))
  subst e
  rw[zuH (hf.up r hr).1 (hg.up q hq).1 hrq hqp]
  exact hq
 exact ziN (R:=fun p q=>za7 p q=true) (fun a h=>by rw[zd4] at h;cases h) (fun a b c h h'=>zcl h h') f g hf.sorted hg.sorted (fun p=>⟨half hf hg h p,half hg hf (fun on=>(h on).symm) p⟩)
end

section
open Go.RowKit
section
variable {w w':World} {base:Nat} {v:Value} {l:List Int}
end
end

section
open Go.RowKit
section
variable {w w':World} {base:Nat} {E:TypeId} {v:Value} {xs ys:List Value}
end
theorem zex {w w':World} {g:Nat} {t:TypeId} {cs:Array Value} {row:Option Nat} (h:At w g t cs) (hg:w.grownBy w' row) (hr:row≠some g):At w' g t cs:=(hg.block g h.lt (fun e=>hr e.symm)).trans h
theorem zcC {W w w':World} {B:Nat} {row:Option Nat} (h:Below B W w) (hs:B<=w.heap.size) (hg:w.grownBy w' row) (hr:∀k,row=some k->B<=k):Below B W w' :=
 ⟨hg.os.trans h.os,hg.tape.trans h.tape,hg.output.trans h.output,qH h.size hg.size,fun i hi=>(hg.block i (by omega) (fun e=>by have:=hr i e.symm;omega)).trans (h.block i hi)⟩
section
variable {ops:Array Oper} {o:Oper} {a:Act} {w:World} {K:Act->World->Prop} {Q:Exit->Act->World->Prop} {X:Prop}
end
end

section
open Go.RowKit
end

section
open Go.RowKit
end

section
open Go.RowKit
end

section
theorem ziO:∀a b:List Int,a.length=b.length->zhg a b=true\/zhg b a=true\/a=b
 | [],[],_=>Or.inr (Or.inr rfl)
 | [],_::_,h=>by simp at h
 | _::_,[],h=>by simp at h
 | x::a,y::b,h=>by
  show (if x=y then zhg a b else decide (x<y))=true\/(if y=x then zhg b a else decide (y<x))=true\/_
  by_cases c:x=y
  ·subst c
   rw[if_pos rfl,if_pos rfl]
   rcases ziO a b (by simpa using h) with h | h | h
   ·exact Or.inl h
   ·exact Or.inr (Or.inl h)
   ·exact Or.inr (Or.inr (by rw[h]))
  ·rw[if_neg c,if_neg (fun e=>c e.symm)]
   by_cases d:x<y
   ·exact Or.inl (qD d)
   ·exact Or.inr (Or.inl (qD (by omega)))
theorem zhx (a b:List Int):za7 a b=true\/za7 b a=true\/a=b:=by
 unfold za7
 by_cases c:a.length=b.length
 ·rw[if_pos c,if_pos c.symm];exact ziO a b c
 ·rw[if_neg c,if_neg (fun e=>c e.symm)]
  by_cases d:a.length<b.length
  ·exact Or.inl (qD d)
  ·exact Or.inr (Or.inl (qD (by omega)))
section
variable {α:Type} {R:α->α->Bool} {l:List α} {y:α}
end
section
variable {l:List Int} {b b':Nat}
end
end

section
open Go.RowKit
section
variable {AA:World->Value->List Nd->(Nat->Prop)->Prop}
end
end

section
open Go.RowKit
def ndL (l:List Nd):List Value:=l.flatMap Nd.cs
theorem ztm (l:List Nd):∀(k i:Nat) (h:k<l.length),i<8->(ndL l)[k*8+i]?=(zaQ l k).cs[i]?:=by
 induction l with
 | nil=>intro k i h;exact absurd h (jD _)
 | cons x l ih =>
  intro k i h hi
  show (x.cs++ndL l)[k*8+i]?=_
  cases k with
  | zero=>rw[Nat.zero_mul,yH,jP (by rw[Nd.cs_length];exact hi)];rfl
  | succ k =>
   rw[yK (by rw[Nd.cs_length];omega),Nd.cs_length,show (k+1)*8+i-8=k*8+i by omega,ih k i (by simpa using h) hi]
   rfl
theorem zpc (l:List Nd) (x:Nd):ndL l++x.cs=ndL (l++[x]):=by unfold ndL;rw[List.flatMap_append];simp
section
variable {w w':World} {base:Nat} {v:Value} {l:List Nd}
def zbR (w:World) (base:Nat) (v:Value) (l:List Nd):Prop:=w.ownsRow base 61 8 v l.length (ndL l)
theorem zbR.nil (w:World) (base:Nat):zbR w base (.slice none 0 0) []:=kD w base _ 8
theorem zbR.grown {row:Option Nat} (h:zbR w base v l) (hg:w.grownBy w' row) (hr:v.ownBlock=none\/v.ownBlock≠row):zbR w' base v l:=World.ownsRow.kept h hg hr
theorem zbR.next (h:zbR w base v l) (hb:Below w.heap.size w w'):zbR w' base v l :=
 World.ownsRow.kept (row:=none) h (zjM hb none) (by cases hv:v.ownBlock<;>simp)
theorem zbR.alloc (h:zbR w base v l) (o:Obj):zbR (w.alloc o) base v l:=World.ownsRow.alloc h o
theorem zbR.push {x:Nd} (h:w.ownsRow base 61 8 v (l.length+1) (ndL l++x.cs)):zbR w base v (l++[x]):=by
 unfold zbR
 rw[qF,<-zpc]
 exact h
theorem zbR.len (h:zbR w base v l):∃A cap,v=.slice A l.length cap:=by
 rcases h.2 with ⟨rfl,hn⟩ | ⟨g,cap,cur,rfl,_⟩
 ·exact ⟨none,0,by rw[hn]⟩
 ·exact ⟨_,_,rfl⟩
theorem zbR.nds (h:zbR w base v l) (hl:l.length<=9223372036854775807):zuE w v l:=by
 obtain ⟨A,cap,rfl⟩:=h.len
 refine ⟨A,cap,rfl,hl,fun h0=>?_⟩
 obtain ⟨g,cap',e,_,hg⟩:=World.ownsRow.form h h0
 injection e with e1 _ e3
 subst e1
 refine ⟨g,0,rfl,hg,fun j hj i u hu=>?_⟩
 have hi:i<8:=by
  have:=(List.getElem?_eq_some_iff.1 hu).1
  rwa [Nd.cs_length] at this
 rw[yH,xZ h (j*8+i) (by omega),ztm l j i hj hi]
 exact hu
end
theorem zmX:(Tryz.prog.info? 61).map (fun i=>(i.zero,i.size,i.bytes))=some (some (.agg Nd.zero.cs.toArray),8,64):=by kernel_rfl
section
variable {AA:World->Value->List Nd->(Nat->Prop)->Prop}
end
end

section
open Go.RowKit
structure zdq (AA:World->Value->List Nd->(Nat->Prop)->Prop):Prop where
 low:∀{w:World} {a:Value} {ns:List Nd} {F:Nat->Prop},AA w a ns F->∀b,F b->b<w.heap.size
 keep:∀{w w':World} {a:Value} {ns:List Nd} {F:Nat->Prop},AA w a ns F->(∀b,F b->w'.heap[b]?=w.heap[b]?)->AA w' a ns F
 fine:∀{w:World} {a:Value} {ns:List Nd} {F:Nat->Prop},AA w a ns F->zaA ns
 max:∀{w:World} {a:Value} {ns:List Nd} {F:Nat->Prop},AA w a ns F->ns.length<=20000
 ptr:∀{w:World} {a:Value} {ns:List Nd} {F:Nat->Prop},AA w a ns F->∃g,a=.pointer (some ⟨g,0,none⟩)
 new:∀w:World,Calls Tryz.prog 18 #[] w fun e w'=>∃a F,e=.returned a/\AA w' a [] F/\(∀b,F b->w.heap.size<=b)/\Below w.heap.size w w'
 put:∀{w:World} {a:Value} {ns:List Nd} {F:Nat->Prop} (x:Nd),AA w a ns F->zbQ x->ns.length<20000->Calls Tryz.prog 23 #[a,.agg x.cs.toArray] w fun e w'=>∃F',e=.returned (.tuple #[.int .i64 (zdJ ns x),.int .i64 (zly ns x)])/\AA w' a (zdI ns x) F'/\(∀b,F' b->F b\/w.heap.size<=b)/\OffF F w w'
 len:∀{w:World} {a:Value} {ns:List Nd} {F:Nat->Prop},AA w a ns F->Calls Tryz.prog 9 #[a] w fun e w'=>e=.returned (.int .i64 ns.length)/\∃q,w'=w.drewN q
 node:∀{w:World} {a:Value} {ns:List Nd} {F:Nat->Prop} (i:Int),AA w a ns F->I64 i->Calls Tryz.prog 36 #[a,.int .i64 i] w fun e w'=>∃y:Nd,e=.returned (.tuple #[.agg y.cs.toArray,.bool (decide (0<=i/\i<ns.length))])/\(0<=i/\i<ns.length->y=zaQ ns i.toNat)/\Below w.heap.size w w'
section
variable {AA:World->Value->List Nd->(Nat->Prop)->Prop}
theorem zdq.next (S:zdq AA) {w w':World} {a:Value} {ns:List Nd} {F:Nat->Prop} (h:AA w a ns F) (hb:Below w.heap.size w w'):AA w' a ns F:=S.keep h (fun b q=>hb.block b (S.low h b q))
end
end

section
open Go.RowKit
def zb1 (w:World) (v:Value) (l:List Int):Prop :=
 ∃A c,v=.slice A l.length c/\(0<l.length->∃b off,A=some ⟨b,off,none⟩/\b<w.heap.size/\∀(j:Nat) (h:j<l.length),w.cell? ⟨b,off+j,none⟩=some (.int .i64 l[j]))
def zey (AA:World->Value->List Nd->(Nat->Prop)->Prop) (w:World) (a:Value) (ns:List Nd) (F:Nat->Prop) (R:List Nd->Int->Prop) (e:Ending) (w':World):Prop :=
 ∃(r:Int) (more:List Nd) (F':Nat->Prop),e=.returned (.int .i64 r)/\AA w' a (ns++more) F'/\(∀b,F' b->F b\/w.heap.size<=b)/\OffF F w w'/\Canon (ns++more)/\zac (ns++more) r/\R more r
def zvv (ns:List Nd) (x:Int):Nat:=((zuw ns x).getD []).length
def zuy (ns:List Nd) (k:Int) (l:List Int):Nat:=(l.map (fun x=>(mem ns k x).length)).sum
def zan (ns:List Nd) (bits:Nat) (id:Int):Bool:=decide (0<=id/\id<ns.length)&&zai [] [bits] ns id 0 0
structure zpd (AA:World->Value->List Nd->(Nat->Prop)->Prop):Prop where
 none:∀{w:World} {a:Value} {ns:List Nd} {F:Nat->Prop},AA w a ns F->Canon ns->ns.length+4<=20000->Calls Tryz.prog 83 #[a] w (zey AA w a ns F fun more r=>kd (ns++more) r=0/\more.length<=3)
 empty:∀{w:World} {a:Value} {ns:List Nd} {F:Nat->Prop},AA w a ns F->Canon ns->ns.length+4<=20000->Calls Tryz.prog 22 #[a] w (zey AA w a ns F fun more r=>kd (ns++more) r=1/\more.length<=3)
 all:∀{w:World} {a:Value} {ns:List Nd} {F:Nat->Prop},AA w a ns F->Canon ns->ns.length+4<=20000->Calls Tryz.prog 131 #[a] w (zey AA w a ns F fun more r=>zfw (ns++more) r=true/\more.length<=3)
 bytes:∀{w:World} {a:Value} {ns:List Nd} {F:Nat->Prop} (s:St),AA w a ns F->Canon ns->s.Ok->ns.length+4<=20000->Calls Tryz.prog 84 #[a,.agg #[.int .u64 s.w0,.int .u64 s.w1,.int .u64 s.w2,.int .u64 s.w3]] w (zey AA w a ns F fun more r=>(kd (ns++more) r=0\/kd (ns++more) r=2)/\more.length<=3)
 look:∀{w:World} {a:Value} {ns:List Nd} {F:Nat->Prop} (k:Int) (neg:Bool),AA w a ns F->Canon ns->I64 k->0<=k/\k<4->ns.length+4<=20000->Calls Tryz.prog 135 #[a,.int .i64 k,.bool neg] w (zey AA w a ns F fun more r=>kd (ns++more) r=8/\more.length<=3)
 lookNo:∀{w:World} {a:Value} {ns:List Nd} {F:Nat->Prop} (k:Int) (neg:Bool),AA w a ns F->Canon ns->I64 k->¬(0<=k/\k<4)->ns.length+4<=20000->Calls Tryz.prog 135 #[a,.int .i64 k,.bool neg] w fun e w'=>e=.returned (.int .i64 (-1))/\AA w' a ns F/\OffF F w w'
 cat:∀{w:World} {a:Value} {ns:List Nd} {F:Nat->Prop} (x y:Int),AA w a ns F->Canon ns->zac ns x->zac ns y->ns.length+zvv ns x+4<=20000->Calls Tryz.prog 123 #[a,.int .i64 x,.int .i64 y] w (zey AA w a ns F fun more r=>zvu (ns++more) x y r/\more.length<=zvv ns x+3/\((∃r0,zvu ns x y r0)->more.length<=3))
 or:∀{w:World} {a v:Value} {ns:List Nd} {F:Nat->Prop} (l:List Int),AA w a ns F->Canon ns->zb1 w v l->(∀x∈l,zac ns x)->ns.length+zuy ns 4 l+4<=20000->Calls Tryz.prog 87 #[a,v] w (zey AA w a ns F fun more r=>zo5 (ns++more) 4 l r/\more.length<=zuy ns 4 l+3/\((∃r0,zo5 ns 4 l r0)->more.length<=3))
 and:∀{w:World} {a v:Value} {ns:List Nd} {F:Nat->Prop} (l:List Int),AA w a ns F->Canon ns->zb1 w v l->(∀x∈l,zac ns x)->ns.length+zuy ns 5 l+4<=20000->Calls Tryz.prog 88 #[a,v] w (zey AA w a ns F fun more r=>zo5 (ns++more) 5 l r/\more.length<=zuy ns 5 l+3/\((∃r0,zo5 ns 5 l r0)->more.length<=3))
 not:∀{w:World} {a:Value} {ns:List Nd} {F:Nat->Prop} (x:Int),AA w a ns F->Canon ns->zac ns x->ns.length+4<=20000->Calls Tryz.prog 89 #[a,.int .i64 x] w (zey AA w a ns F fun more r=>zqH (ns++more) x r/\more.length<=3)
 star:∀{w:World} {a:Value} {ns:List Nd} {F:Nat->Prop} (x:Int),AA w a ns F->Canon ns->zac ns x->ns.length+4<=20000->Calls Tryz.prog 133 #[a,.int .i64 x] w (zey AA w a ns F fun more r=>ziH (ns++more) x r/\more.length<=3)
 null:∀{w:World} {a:Value} {ns:List Nd} {F:Nat->Prop} (id:Int) (bits:Nat),AA w a ns F->I64 id->bits<256->Calls Tryz.prog 67 #[a,.int .i64 id,.int .u8 bits] w fun e w'=>e=.returned (.bool (zan ns bits id))/\Below w.heap.size w w'
theorem zmY:Canon [] where
 fine:=⟨fun j hj=>absurd hj (jD _),fun i j hi=>absurd hi (jD _)⟩
 cat:=fun x hx=>by unfold zac at hx;simp at hx;omega
 join:=fun k _ x hx=>by unfold zac at hx;simp at hx;omega
 not:=fun x hx=>by unfold zac at hx;simp at hx;omega
 star:=fun x hx=>by unfold zac at hx;simp at hx;omega
 bytes:=fun x hx=>by unfold zac at hx;simp at hx;omega
end
end Go.Proofs.YtdmodhnhldbpnaaGreat
